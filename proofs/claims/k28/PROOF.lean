import PyProof.Rows.All
import Wide.All
import OpenK.AllK
import Wide.FinOn
import Lean
import PyProof.EqAt
import PyProof.EqKinds
import PyProof.TupleCall
import PySem.Challenge.RW_lastword_k28_gone_is_gone
set_option Elab.async false
set_option linter.all false
set_option maxRecDepth 100000
set_option maxHeartbeats 4000000
abbrev Fg := PySem.W.Frag
abbrev Pn := List (PySem.Addr × PySem.Obj)
namespace L2
open PySem PySem.Spec PyProof.Rows
abbrev Key := Sum Int Str
def Qjt : Key → Value → Bool
 | .inl k, v => Value.isInt k v
 | .inr x, v => Value.isStrOf x v
def keyH (w : World) : Key → Int
 | .inl k => hashInt k
 | .inr x => hashStr w x
theorem Zj : ∀ {k : Key} {v : Value}, Qjt k v = true → (∃ i t, k = Sum.inl i ∧ v = Value.int i t) ∨ (∃ x t, k = Sum.inr x ∧ v = Value.str x t)
 | .inl i, v, h => by
  obtain ⟨t, e⟩ := Value.isInt_shape (k := i) (v := v) h
  exact .inl ⟨i, t, rfl, e⟩
 | .inr x, v, h => by
  obtain ⟨t, e⟩ := Value.isStrOf_shape (x := x) (v := v) h
  exact .inr ⟨x, t, rfl, e⟩
theorem QkK (i : Int) (t : Tok) : Qjt (.inl i) (.int i t) = true := by simp [Qjt, Value.isInt]
theorem QcI (x : Str) (t : Tok) : Qjt (.inr x) (.str x t) = true := by simp [Qjt, Value.isStrOf]
theorem key_ll (a b : Int) : decide ((Sum.inl a : Key) = Sum.inl b) = (a == b) := by
 by_cases e : a = b
 ·subst e; simp
 ·have h : ¬ (Sum.inl a : Key) = Sum.inl b := fun q => e (Sum.inl.inj q)
  rw [decide_eq_false h]
  exact (beq_eq_false_iff_ne.mpr e).symm
theorem key_rr (a b : Str) : decide ((Sum.inr a : Key) = Sum.inr b) = decide (a = b) := by
 by_cases e : a = b
 ·subst e; simp
 ·have h : ¬ (Sum.inr a : Key) = Sum.inr b := fun q => e (Sum.inr.inj q)
  rw [decide_eq_false h, decide_eq_false e]
theorem key_lr (a : Int) (b : Str) : decide ((Sum.inl a : Key) = Sum.inr b) = false := decide_eq_false (fun q => nomatch q)
theorem key_rl (a : Str) (b : Int) : decide ((Sum.inr a : Key) = Sum.inl b) = false := decide_eq_false (fun q => nomatch q)
def QS (prog : Program) (w : World) : PySem.KeyKind prog w Key where
 is := Qjt
 hash := keyH w
 inj := fun v a b ha hb => by
  rcases Zj ha with ⟨i, t, rfl, rfl⟩ | ⟨x, t, rfl, rfl⟩
  ·rcases Zj hb with ⟨j, u, rfl, e⟩ | ⟨y, u, rfl, e⟩
   ·injection e with e1 _; rw [e1]
   ·exact nomatch e
  ·rcases Zj hb with ⟨j, u, rfl, e⟩ | ⟨y, u, rfl, e⟩
   ·exact nomatch e
   ·injection e with e1 _; rw [e1]
 byValue := fun k v h => by
  rcases Zj h with ⟨i, t, rfl, rfl⟩ | ⟨x, t, rfl, rfl⟩ <;> rfl
 pyHash := fun hv h => by
  rcases Zj hv with ⟨i, t, rfl, rfl⟩ | ⟨x, t, rfl, rfl⟩
  ·exact wpAny_pyHash_int h
  ·exact wpAny_pyHash_str h
 eqBool := fun hu hv h => by
  rcases Zj hu with ⟨i, t, rfl, rfl⟩ | ⟨x, t, rfl, rfl⟩
  ·rcases Zj hv with ⟨j, u, rfl, rfl⟩ | ⟨y, u, rfl, rfl⟩
   ·rw [key_ll] at h; exact wpAny_eqBool_int h
   ·rw [key_lr] at h; exact SeqAt.EqAt.int_str i t y u _ _ _ _ h
  ·rcases Zj hv with ⟨j, u, rfl, rfl⟩ | ⟨y, u, rfl, rfl⟩
   ·rw [key_rl] at h; exact SeqAt.EqAt.str_int x t j u _ _ _ _ h
   ·rw [key_rr] at h; exact wpAny_eqBool_str h
 «strs» := fun k x t v h => by
  rcases Zj h with ⟨i, u, rfl, e⟩ | ⟨y, u, rfl, e⟩
  ·exact nomatch e
  ·injection e with e1 _
   subst e1
   cases v <;> rfl
theorem Qio (prog : Program) (w : World) (i : Int) (t : Tok) : (QS prog w).is (.inl i) (.int i t) = true := QkK i t
theorem Qin (prog : Program) (w : World) (x : Str) (t : Tok) : (QS prog w).is (.inr x) (.str x t) = true := QcI x t
end L2
namespace L2
open PySem PySem.Spec PyProof.Rows
inductive V where
 | non | bl (b : Bool) | int (i : Int) | str (x : Str) | byt (b : Array UInt8) | flt (b : UInt64) | ref (a : Addr) | ty (n : String)
 deriving DecidableEq
def RelV : V → Value → Prop
 | .non, u => u = Value.none
 | .bl b, u => u = Value.bool b
 | .int i, u => ∃ t, u = Value.int i t
 | .str x, u => ∃ t, u = Value.str x t
 | .byt b, u => ∃ t, u = Value.bytes b t
 | .flt b, u => ∃ t, u = Value.float b t
 | .ref a, u => u = Value.ref a
 | .ty n, u => u = Value.type n
abbrev Vals : List V → List Value → Prop := Paired RelV
theorem Vals.length {xs : List V} {us : List Value} (r : Vals xs us) : xs.length = us.length := Paired.length r
theorem Vals.get : ∀ {xs : List V} {us : List Value} {i : Nat} {x : V}, Vals xs us → xs[i]? = some x → ∃ u, us[i]? = some u ∧ RelV x u
 | _, _, _, _, .nil, e => by simp at e
 | _, _, 0, _, .cons r _, e => by simp at e; subst e; exact ⟨_, rfl, r⟩
 | _, _, i + 1, x, .cons _ t, e => by
  obtain ⟨u, h1, h2⟩ := Vals.get (i := i) (x := x) t (by simpa using e)
  exact ⟨u, by simpa using h1, h2⟩
theorem Vals.set {x : V} {u : Value} (r : RelV x u) : ∀ {xs : List V} {us : List Value} (i : Nat), Vals xs us → Vals (xs.set i x) (us.set i u)
 | _, _, _, .nil => .nil
 | _, _, 0, .cons _ t => .cons r t
 | _, _, i + 1, .cons q t => .cons q (Vals.set r i t)
theorem Vals.append : ∀ {xs ys : List V} {us ws : List Value}, Vals xs us → Vals ys ws → Vals (xs ++ ys) (us ++ ws)
 | _, _, _, _, .nil, s => s
 | _, _, _, _, .cons r t, s => .cons r (Vals.append t s)
def RelO : Option V → Option Value → Prop
 | some v, some u => RelV v u
 | none, none => True
 | _, _ => False
def KV {κ : Type} : List (κ × V) → List (κ × Value) → Prop := Paired fun (p : κ × V) (q : κ × Value) => p.1 = q.1 ∧ RelV p.2 q.2
def kV : Key → V
 | .inl i => .int i
 | .inr x => .str x
inductive HO where
 /-- a list -/
 | lst (xs : List V)
 /-- a tuple (never changes) -/
 | tup (xs : List V)
 /-- a dict whose keys are ints and texts; one whose keys are tuples of ints and texts (the empty one is both) -/
 | dK (kvs : List (Key × V)) | dT (kvs : List (List Key × V))
 /-- a set of ints: its members, its size -/
 | set (S : Int → Bool) (n : Nat)
 /-- an instance of the class at C, its dict at dx, its attributes -/
 | ins (C dx : Addr) (fs : List (Str × V))
 /-- the dict of the instance at x -/
 | own (x : Addr)
 /-- the dict of an exception -/
 | xd (fs : List (Str × V))
 /-- a bound method, f of x -/
 | met (f x : Addr)
 /-- a range object lo, lo + 1, .. below hi -/
 | rng (lo hi : Int)
 /-- a thing that is known to the object (the script; a dict while a loop walks it): read, never written while it is so -/
 | frz (o : Obj) (u : HO)
 /-- a code object's table -/
 | tbl (ps : Array Value)
 /-- any other thing, by what is true of its one object (a def of one's own: SetO a S n := HO.ext fun h => ..) -/
 | ext (φ : Heap → Prop)
abbrev Hp := Addr → Option HO
def upd (H : Hp) (a : Addr) (o : HO) : Hp := fun b => if b = a then some o else H b
theorem Qd {H : Hp} {a : Addr} {o : HO} : upd H a o a = some o := by unfold upd; rw [if_pos rfl]
theorem Qh {H : Hp} {a b : Addr} {o : HO} (h : b ≠ a) : upd H a o b = H b := by unfold upd; rw [if_neg h]
theorem QI {H : Hp} {a b : Addr} {o u : HO} (h : H a = some o) (h' : H b = some u) (d : o ≠ u) : a ≠ b := by
 intro e; subst e; rw [h] at h'; exact d (Option.some.inj h')
theorem Qf {H : Hp} {a b : Addr} {o : HO} (h : H a = some o) (h' : H b = none) : a ≠ b := by
 intro e; subst e; rw [h] at h'; cases h'
section
variable (P : Program) (w : World)
def ObjOk (H : Hp) (h : Heap) (a : Addr) : HO → Prop
 | .lst xs => xs.length ≤ sizeLine ∧ ∃ (its : List Value) (n : Nat), Vals xs its ∧ h.get? a = some { cls := .type "list", data := .seq its.toArray n }
 | .tup xs => xs.length ≤ sizeLine ∧ ∃ its : List Value, Vals xs its ∧ IsTup h a its.toArray
 | .dK kvs => kvs.length ≤ sizeLine ∧ (a == sysModules) = false ∧ ∃ vs, KV kvs vs ∧ h.DictOf (QS P w) a vs
 | .dT kvs => kvs.length ≤ sizeLine ∧ (a == sysModules) = false ∧ ∃ xs : List (List Key × Addr × Value),
   Paired (fun (p : List Key × V) (q : List Key × Addr × Value) => p.1 = q.1 ∧ H q.2.1 = some (.tup (p.1.map kV)) ∧ RelV p.2 q.2.2) kvs xs ∧
   ∃ o es ep, h.get? a = some o ∧ o.ExactDict ∧ o.data = .dict es ep ∧ es.toList = xs.map (entryOfKey (tupleKind (QS P w))) ∧ (xs.map (·.1)).Nodup
 | .set S n => h.SetOf (intKind P w) a S n
 | .ins C dx fs => H dx = some (.own a) ∧ fs.length ≤ 1000 ∧ dx ≠ a ∧ h.get? a = some (PySem.W.instObj C dx) ∧
   ∃ mA, h.Ns1 dx mA ∧ (∀ f, RelO (fs.lookup f) (mA f)) ∧ PySem.Within mA (fs.map (·.1))
 | .own _ => ∃ o, h.get? a = some o
 | .xd fs => ∃ mA, h.Ns1 a mA ∧ ∀ f, RelO (fs.lookup f) (mA f)
 | .rng lo hi => ∃ t u v, h.get? a = some { cls := .type "range", data := .fields #[.int lo t, .int hi u, .int 1 v] }
 | .frz o u => h.get? a = some o ∧ ObjOk H h a u
 | .tbl ps => h.get? a = some { cls := .none, data := .fields ps }
 | .met f x => h.get? a = some (PySem.W.methodObj (.ref f) (.ref x))
 | .ext φ => φ h ∧ (∃ o, h.get? a = some o) ∧ ∀ h1 h2 : Heap, φ h1 → (∀ o, h1.get? a = some o → h2.get? a = some o) → φ h2
def HOk (H : Hp) (h : Heap) : Prop := ∀ a o, H a = some o → ObjOk P w H h a o
end
section
variable {P : Program} {w : World} {H H' : Hp} {h h' : Heap} {a : Addr} {o : HO}
theorem ObjOk.lt (x : ObjOk P w H h a o) : a < h.objs.size := by
 cases o with
 | lst xs => obtain ⟨_, _, _, _, e⟩ := x; exact Heap.lt_size e
 | tup xs => obtain ⟨_, _, _, p⟩ := x; exact p.lt
 | dK kvs => obtain ⟨_, _, _, _, o, _, _, e, _⟩ := x; exact Heap.lt_size e
 | dT kvs => obtain ⟨_, _, _, _, o, _, _, e, _⟩ := x; exact Heap.lt_size e
 | set S n => obtain ⟨o, _, _, _, e, _⟩ := x; exact Heap.lt_size e
 | ins C dx fs => obtain ⟨_, _, _, e, _⟩ := x; exact Heap.lt_size e
 | own y => obtain ⟨_, e⟩ := x; exact Heap.lt_size e
 | xd fs => obtain ⟨_, ⟨_, _, _, e, _⟩, _⟩ := x; exact Heap.lt_size e
 | rng lo hi => obtain ⟨_, _, _, e⟩ := x; exact Heap.lt_size e
 | frz ob u => obtain ⟨e, _⟩ := x; exact Heap.lt_size e
 | tbl ps => exact Heap.lt_size (show h.get? a = some _ from x)
 | met f y => exact Heap.lt_size (show h.get? a = some _ from x)
 | ext φ => obtain ⟨_, ⟨_, e⟩, _⟩ := x; exact Heap.lt_size e
theorem Paired.mapP {α β : Type} {F G : α → β → Prop} : ∀ {l₁ : List α} {l₂ : List β}, Paired F l₁ l₂ → (∀ a b, F a b → G a b) → Paired G l₁ l₂
 | _, _, .nil, _ => .nil
 | _, _, .cons r t, f => .cons (f _ _ r) (Paired.mapP t f)
theorem ObjOk.stay (x : ObjOk P w H h a o) (k : ∀ b u, (b = a ∨ H b = some (.own a)) → h.get? b = some u → h'.get? b = some u)
  (ho : ∀ b, H b = some (.own a) → H' b = some (.own a)) (ht : ∀ b xs, H b = some (.tup xs) → H' b = some (.tup xs)) : ObjOk P w H' h' a o := by
 induction o with
 | lst xs => obtain ⟨z, its, n, r, e⟩ := x; exact ⟨z, its, n, r, k _ _ (.inl rfl) e⟩
 | tup xs => obtain ⟨z, its, r, ob, e, c⟩ := x; exact ⟨z, its, r, ob, k _ _ (.inl rfl) e, c⟩
 | dK kvs => obtain ⟨z, y, vs, r, ob, es, ep, e, c⟩ := x; exact ⟨z, y, vs, r, ob, es, ep, k _ _ (.inl rfl) e, c⟩
 | dT kvs =>
  obtain ⟨z, y, xs, r, ob, es, ep, e, c⟩ := x
  exact ⟨z, y, xs, Paired.mapP r fun p q z => ⟨z.1, ht _ _ z.2.1, z.2.2⟩, ob, es, ep, k _ _ (.inl rfl) e, c⟩
 | set S n => obtain ⟨ob, es, ep, t, e, c⟩ := x; exact ⟨ob, es, ep, t, k _ _ (.inl rfl) e, c⟩
 | ins C dx fs =>
  obtain ⟨d, z, ne, e, mA, ⟨od, es, ep, e2, c⟩, r⟩ := x
  exact ⟨ho _ d, z, ne, k _ _ (.inl rfl) e, mA, ⟨od, es, ep, k _ _ (.inr d) e2, c⟩, r⟩
 | own y => obtain ⟨ob, e⟩ := x; exact ⟨ob, k _ _ (.inl rfl) e⟩
 | xd fs => obtain ⟨mA, ⟨od, es, ep, e, c⟩, r⟩ := x; exact ⟨mA, ⟨od, es, ep, k _ _ (.inl rfl) e, c⟩, r⟩
 | rng lo hi => obtain ⟨t, u, v, e⟩ := x; exact ⟨t, u, v, k _ _ (.inl rfl) e⟩
 | frz ob u ih => obtain ⟨e, q⟩ := x; exact ⟨k _ _ (.inl rfl) e, ih q⟩
 | tbl ps =>
  have e : h.get? a = some { cls := .none, data := .fields ps } := x
  show h'.get? a = some { cls := .none, data := .fields ps }
  exact k a _ (.inl rfl) e
 | met f y =>
  have e : h.get? a = some (PySem.W.methodObj (.ref f) (.ref y)) := x
  show h'.get? a = some (PySem.W.methodObj (.ref f) (.ref y))
  exact k a _ (.inl rfl) e
 | ext φ => obtain ⟨p, ⟨o, e⟩, st⟩ := x; exact ⟨st _ _ p fun o q => k _ _ (.inl rfl) q, ⟨o, k _ _ (.inl rfl) e⟩, st⟩
theorem HOk.lt (x : HOk P w H h) (e : H a = some o) : a < h.objs.size := (x a o e).lt
theorem HOk.fresh (x : HOk P w H h) (e : h.objs.size ≤ a) : H a = none := by
 cases q : H a with
 | none => rfl
 | some u => exact absurd (Nat.lt_of_lt_of_le (x.lt q) e) (Nat.lt_irrefl _)
theorem HOk.kept (x : HOk P w H h) (k : ∀ b u, h.get? b = some u → h'.get? b = some u) : HOk P w H h' := fun a o e =>
 (x a o e).stay (fun b u _ q => k b u q) (fun _ q => q) fun _ _ q => q
theorem HOk.laid (x : HOk P w H h) (k : ∀ b u, h.get? b = some u → h'.get? b = some u) (hp : h.objs.size ≤ a) (new : ObjOk P w (upd H a o) h' a o) : HOk P w (upd H a o) h' := fun b u e => by
 have hn := x.fresh hp
 by_cases hb : b = a
 ·subst hb; rw [Qd] at e; cases e; exact new
 ·rw [Qh hb] at e
  exact (x b u e).stay (fun c v _ q => k c v q) (fun c q => by rw [Qh (Qf q hn)]; exact q) fun c xs q => by rw [Qh (Qf q hn)]; exact q
end
def Rd (H : Hp) (a : Addr) (u : HO) : Prop := H a = some u ∨ ∃ o, H a = some (.frz o u)
theorem Rd.of {H : Hp} {a : Addr} {u : HO} (h : H a = some u) : Rd H a u := .inl h
theorem Rd.ok {P : Program} {w : World} {H : Hp} {h : Heap} {a : Addr} {u : HO} (r : Rd H a u) (x : HOk P w H h) : ObjOk P w H h a u := by
 rcases r with r | ⟨o, r⟩
 ·exact x a u r
 ·obtain ⟨_, q⟩ := x a _ r
  exact q
def Mut : Option HO → Prop
 | some (.lst _) => True
 | some (.dK _) => True
 | some (.dT _) => True
 | some (.set _ _) => True
 | some (.ins _ _ _) => True
 | some (.ext _) => True
 | _ => False
section
variable {P : Program} {w : World} {H : Hp} {h h' : Heap} {x e : Addr} {o' : HO}
theorem HOk.write (ok : HOk P w H h) (mu : Mut (H x)) (he : e = x ∨ H e = some (.own x)) (k : ∀ b u, b ≠ e → h.get? b = some u → h'.get? b = some u) (heo : ∃ u, h'.get? e = some u)
  (new : ObjOk P w (upd H x o') h' x o') : HOk P w (upd H x o') h' := fun b u q => by
 have nown : ∀ c y, H c = some (.own y) → c ≠ x := fun c y r z => by subst z; rw [r] at mu; exact mu
 have ntup : ∀ c xs, H c = some (.tup xs) → c ≠ x := fun c xs r z => by subst z; rw [r] at mu; exact mu
 by_cases hb : b = x
 ·subst hb; rw [Qd] at q; cases q; exact new
 ·rw [Qh hb] at q
  by_cases hbe : b = e
  ·have q' : H b = some (.own x) := by
    rcases he with z | z
    ·exact absurd (hbe.trans z) hb
    ·rw [hbe]; exact z
   rw [q] at q'; cases q'
   obtain ⟨v, hv⟩ := heo
   exact ⟨v, by rw [hbe]; exact hv⟩
  ·refine (ok b u q).stay (fun c v hc r => k c v ?_ r) (fun c r => by rw [Qh (nown c b r)]; exact r) fun c xs r => by rw [Qh (ntup c xs r)]; exact r
   rcases hc with rfl | hc
   ·exact hbe
   ·rintro rfl
    rcases he with z | z
    ·exact nown c b hc z
    ·rw [hc] at z; cases z; exact hb rfl
end
structure Un (fs ex : List Addr) (H H' : Hp) (h h' : Heap) : Prop where
 keep : ∀ b o, h.get? b = some o → H b = none → b ∉ fs → b ∉ ex → h'.get? b = some o
 slot : ∀ b o, h.get? b = some o → H b = none → b ∈ fs → b ∉ ex → ∃ sl, h'.get? b = some { o with slots := sl }
 free : ∀ b o, h.get? b = some o → H b = none → b ∉ ex → H' b = none
 there : ∀ b o, h.get? b = some o → b ∉ ex → ∃ o', h'.get? b = some o'
 tups : ∀ b xs, H b = some (.tup xs) → H' b = some (.tup xs)
 frzs : ∀ b o u, H b = some (.frz o u) → H' b = some (.frz o u)
 tbls : ∀ b ps, H b = some (.tbl ps) → ∃ more, H' b = some (.tbl (ps ++ more))
section
variable {fs fs' ex ex' : List Addr} {H H1 H2 : Hp} {h h1 h2 h' : Heap} {a x e : Addr} {o : HO}
theorem Un.any (u : Un fs ex H H1 h h1) {b : Addr} {ob : Obj} (q : h.get? b = some ob) (n : H b = none) (hx : b ∉ ex) : ∃ sl, h1.get? b = some { ob with slots := sl } := by
 by_cases hb : b ∈ fs
 ·exact u.slot b ob q n hb hx
 ·exact ⟨ob.slots, u.keep b ob q n hb hx⟩
theorem Un.kept (k : ∀ b u, h.get? b = some u → h'.get? b = some u) : Un fs ex H H h h' :=
 ⟨fun b ob q _ _ _ => k b ob q, fun b ob q _ _ _ => ⟨ob.slots, k b ob q⟩, fun _ _ _ n _ => n, fun b ob q _ => ⟨ob, k b ob q⟩, fun _ _ q => q, fun _ _ _ q => q, fun _ ps q => ⟨#[], by rw [q]; simp⟩⟩
theorem Un.refl : Un fs ex H H h h := Un.kept fun _ _ q => q
theorem Un.laid (k : ∀ b u, h.get? b = some u → h'.get? b = some u) (hp : h.objs.size ≤ a) (hn : H a = none) : Un fs ex H (upd H a o) h h' where
 keep := fun b u q _ _ _ => k b u q
 slot := fun b u q _ _ _ => ⟨u.slots, k b u q⟩
 free := fun b u q n _ => by rw [Qh (Nat.ne_of_lt (Nat.lt_of_lt_of_le (Heap.lt_size q) hp))]; exact n
 there := fun b u q _ => ⟨u, k b u q⟩
 tups := fun b xs q => by rw [Qh (Qf q hn)]; exact q
 frzs := fun b u xs q => by rw [Qh (Qf q hn)]; exact q
 tbls := fun b ps q => ⟨#[], by rw [Qh (Qf q hn), q]; simp⟩
theorem Un.write (mu : Mut (H x)) (he : e = x ∨ H e = some (.own x)) (k : ∀ b u, b ≠ e → h.get? b = some u → h'.get? b = some u) (heo : ∃ u, h'.get? e = some u) : Un fs ex H (upd H x o) h h' := by
 have hx : ∀ b, H b = none → b ≠ x := fun b n z => by subst z; rw [n] at mu; exact mu
 have hb : ∀ b, H b = none → b ≠ e := fun b n z => by
  subst z
  rcases he with r | r
  ·exact hx b n r
  ·rw [n] at r; cases r
 have hm : ∀ b u, H b = some u → ¬ Mut (some u) → b ≠ x := fun b u q nm z => by subst z; rw [q] at mu; exact nm mu
 refine ⟨fun b u q n _ _ => k b u (hb b n) q, fun b u q n _ _ => ⟨u.slots, k b u (hb b n) q⟩, fun b u q n _ => by rw [Qh (hx b n)]; exact n, fun b u q _ => ?_,
  fun b xs q => by rw [Qh (hm b _ q fun z => z)]; exact q, fun b u xs q => by rw [Qh (hm b _ q fun z => z)]; exact q, fun b ps q => ⟨#[], by rw [Qh (hm b _ q fun z => z), q]; simp⟩⟩
 by_cases hbe : b = e
 ·subst hbe; exact heo
 ·exact ⟨u, k b u hbe q⟩
end
def trk (h : Heap) (H : Hp) : List Addr := (List.range h.objs.size).filter fun a => (H a).isSome
def QlN (h : Heap) (H : Hp) : Heap := PySem.W.hideAll h (trk h H)
theorem QkS (h : Heap) (H : Hp) : (QlN h H).objs.size = h.objs.size := PySem.W.hideAll_size _ _
theorem QlM {h : Heap} {H : Hp} {b : Addr} {o : Obj} (e : h.get? b = some o) (n : H b = none) : (QlN h H).get? b = some o :=
 PySem.W.hideAll_get _ e fun hm => by
  have q : (H b).isSome = true := (List.mem_filter.mp hm).2
  rw [n] at q; simp at q
theorem QmU {h : Heap} {H : Hp} {b : Addr} {o : Obj} (e : (QlN h H).get? b = some o) : h.get? b = some o ∧ H b = none := by
 have e' : h.get? b = some o := PySem.W.of_hideAll (trk h H) e
 refine ⟨e', ?_⟩
 cases q : H b with
 | none => rfl
 | some x =>
  have hm : b ∈ trk h H := List.mem_filter.mpr ⟨List.mem_range.mpr (Heap.lt_size e'), by simp [q]⟩
  have z : (QlN h H).get? b = none := PySem.W.hideAll_none (trk h H) hm
  rw [z] at e; cases e
def Qm8 (g h : Heap) (L : Addr) : Pn := (List.range h.objs.size).filterMap fun a => if a = L ∨ (g.get? a).isSome = true then none else (h.get? a).map fun o => (a, o)
def Qkk (g h : Heap) (L d : Addr) : Pn := (Qm8 g h L).filter fun p => decide (p.1 ≠ d)
end L2
namespace L2
open PySem PySem.Spec PyProof.Rows
structure Mod (K : Fg) (mg : Str → Option Value) (base : Heap) : Prop where
 kin : K.In base
 glob : base.Ns mainGlobals mg
 blt : ∃ mb, base.Ns builtinsNs mb ∧ ∀ x : Str, x ≠ "__name__" → mb x = bootBuiltins x
 nolimit : base.NoLimit
structure Cx where
 prog : Program
 w : World
 K : Fg
 mg : Str → Option Value
 base : Heap
 A : Around
 N : List Str
 s₀ : Shared
 H₀ : Hp
 env : Env
 outer : List Env
 stack : List Env
 ex : List Addr
 fn : Str → Bool
 calm : Bool
 pn : Pn
 xe : Value → Shared → Prop
def frs (l : List Env) : List Addr := l.filterMap (·.frame)
abbrev Cx.fs (X : Cx) : List Addr := frs X.outer
def Vis (sc : Scope) (x : Str) : Prop := sc.names.lookup x = some .local ∨ sc.names.lookup x = some .cell ∨ sc.names.lookup x = some .free
def Loc (sc : Scope) (x : Str) : Prop := sc.names.lookup x = some .local ∨ sc.names.lookup x = some .cell
def Look (env : Env) (h : Heap) (m : Str → Option Value) (x : Str) (u : Value) : Prop :=
 (env.kindOf x = some .local ∧ m x = some u) ∨ ((env.kindOf x = some .cell ∨ env.kindOf x = some .free) ∧ ∃ c, env.cells.lookup x = some c ∧ h.IsCell c (some u))
structure Cx.Ok (X : Cx) : Prop where
 mod : Mod X.K X.mg X.base
 kind : X.env.scope.kind = .function
 glob : X.env.globals = mainGlobals
 blt : X.env.builtins = builtinsNs
 above : X.s₀.heap.objs.size ≤ X.env.locals
 inj : ∀ x y c, X.env.cells.lookup x = some c → X.env.cells.lookup y = some c → x = y
 has : ∀ x, (X.env.kindOf x = some .cell ∨ X.env.kindOf x = some .free) → ∃ c, X.env.cells.lookup x = some c
 cab : ∀ x c, X.fn x = true → X.env.cells.lookup x = some c → X.s₀.heap.objs.size ≤ c
 hd : X.calm = true → X.A.handled = none
 frames : X.A.frames = some X.stack
 stk : X.stack = X.outer ∨ (X.stack = X.env :: X.outer ∧ X.env.frame = some X.env.locals)
 exf : ∀ b ∈ X.ex, b ≠ X.env.locals ∧ ∀ x c, X.env.cells.lookup x = some c → c ≠ b
 bs : ∀ b o, X.base.get? b = some o → X.s₀.heap.get? b = some o ∧ X.H₀ b = none
 bsz : X.base.objs.size ≤ X.s₀.heap.objs.size
 noex : ∀ b o, X.base.get? b = some o → b ∉ X.ex
 exfs : ∀ b ∈ X.ex, b ∉ X.fs
 funs : X.s₀.heap.FunFrames X.base X.outer
 frf : ∀ b ∈ X.fs, X.H₀ b = none
structure Inv (X : Cx) (pins : Pn) (σ : List (Option V)) (H : Hp) (s : Shared) : Prop where
 ok : X.Ok
 os : s.os = X.s₀.os
 bare : AllBare s.gens
 base : Un X.fs X.ex X.H₀ H X.s₀.heap s.heap
 loc : ∃ m, s.heap.Ns X.env.locals m ∧ ∀ (i : Nat) (x : Str) (v : V), X.N[i]? = some x → σ[i]? = some (some v) → Vis X.env.scope x → ∃ u, RelV v u ∧ Look X.env s.heap m x u
 cell : ∀ x c, X.env.cells.lookup x = some c → ∃ v, s.heap.IsCell c v
 free : H X.env.locals = none
 freeC : ∀ x c, X.env.cells.lookup x = some c → H c = none
 pin : ∀ p ∈ X.pn ++ pins, s.heap.get? p.1 = some p.2 ∧ H p.1 = none ∧ p.1 ≠ X.env.locals ∧ p.1 ∉ X.fs ∧ ∀ v, p.2.data ≠ .cell v
 hok : HOk X.prog X.w H s.heap
 len : σ.length = X.N.length
section
variable {X : Cx} {pins : Pn} {σ : List (Option V)} {H H' : Hp} {s : Shared} {h' : Heap}
theorem Cx.Ok.nofr (ok : X.Ok) {b : Addr} {o : Obj} (e : X.base.get? b = some o) : b ∉ X.fs := fun hb => by
 have := (ok.funs.mem hb).1
 rw [e] at this; cases this
theorem Inv.bs (I : Inv X pins σ H s) : ∀ b o, X.base.get? b = some o → s.heap.get? b = some o ∧ H b = none := fun b o e =>
 ⟨I.base.keep b o (I.ok.bs b o e).1 (I.ok.bs b o e).2 (I.ok.nofr e) (I.ok.noex b o e), I.base.free b o (I.ok.bs b o e).1 (I.ok.bs b o e).2 (I.ok.noex b o e)⟩
theorem Inv.bk (I : Inv X pins σ H s) : ∀ b o, X.base.get? b = some o → s.heap.get? b = some o := fun b o e => (I.bs b o e).1
theorem Inv.mod (I : Inv X pins σ H s) : Mod X.K X.mg X.base := I.ok.mod
theorem Inv.kIn (I : Inv X pins σ H s) : X.K.In s.heap := I.ok.mod.kin.keeps I.bk
theorem Inv.lt (I : Inv X pins σ H s) : X.env.locals < s.heap.objs.size := let ⟨_, hn, _⟩ := I.loc; hn.lt
theorem Inv.sz (I : Inv X pins σ H s) : X.s₀.heap.objs.size ≤ s.heap.objs.size := Nat.le_trans I.ok.above (Nat.le_of_lt I.lt)
theorem Inv.nofs (I : Inv X pins σ H s) {a : Addr} (h : s.heap.objs.size ≤ a) : a ∉ X.fs := fun hb => by
 obtain ⟨_, o, ho, _⟩ := I.ok.funs.mem hb
 exact absurd (Nat.lt_of_lt_of_le (Heap.lt_size ho) (Nat.le_trans I.sz h)) (Nat.lt_irrefl _)
theorem Inv.cne (I : Inv X pins σ H s) : ∀ x c, X.env.cells.lookup x = some c → c ≠ X.env.locals := fun x c e z => by
 obtain ⟨v, o, ho, hd⟩ := I.cell x c e
 obtain ⟨m, ⟨o', es, ep, ho', hd', _⟩, _⟩ := I.loc
 rw [z, ho'] at ho; cases ho; rw [hd'] at hd; cases hd
theorem Inv.funs (I : Inv X pins σ H s) : s.heap.FunFrames X.base X.outer := by
 have all : ∀ (l : List Env), (∀ b ∈ frs l, b ∈ X.fs) → X.s₀.heap.FunFrames X.base l → s.heap.FunFrames X.base l := by
  intro l
  induction l with
  | nil => intro _ _; trivial
  | cons env r ih =>
   intro hs hl
   obtain ⟨hk, ⟨L, o, hf, hn, ho, hd⟩, hr⟩ := hl
   have hL : L ∈ X.fs := hs L (by unfold frs; rw [List.filterMap_cons, hf]; exact List.mem_cons_self)
   obtain ⟨sl, e⟩ := I.base.slot L o ho (I.ok.frf L hL) hL fun z => I.ok.exfs L z hL
   exact ⟨hk, ⟨L, _, hf, hn, e, hd⟩, ih (fun b hb => hs b (by unfold frs; rw [List.filterMap_cons, hf]; exact List.mem_cons_of_mem _ hb)) hr⟩
 exact all X.outer (fun _ hb => hb) I.ok.funs
theorem Inv.stack (I : Inv X pins σ H s) : s.heap.FunFrames X.base X.stack := by
 rcases I.ok.stk with e | ⟨e, hf⟩
 ·rw [e]; exact I.funs
 ·rw [e]
  obtain ⟨m, hn, _⟩ := I.loc
  refine .cons (by rw [I.ok.kind]; decide) hf hn ?_ I.funs
  exact Heap.get?_none_of_le (Nat.le_trans I.ok.bsz I.ok.above)
theorem Inv.stkSub (I : Inv X pins σ H s) : ∀ b ∈ frs X.stack, b ∈ X.env.locals :: X.fs := fun b hb => by
 rcases I.ok.stk with e | ⟨e, hf⟩
 ·rw [e] at hb; exact List.mem_cons_of_mem _ hb
 ·rw [e] at hb
  unfold frs at hb
  rw [List.filterMap_cons, hf] at hb
  exact hb
theorem Inv.stkFree (I : Inv X pins σ H s) : ∀ b ∈ frs X.stack, H b = none := fun b hb => by
 rcases List.mem_cons.mp (I.stkSub b hb) with e | hb
 ·rw [e]; exact I.free
 ·obtain ⟨_, o, ho, _⟩ := I.ok.funs.mem hb
  exact I.base.free b o ho (I.ok.frf b hb) fun z => I.ok.exfs b z hb
theorem Inv.step {g' : Array GenState} {t' : Nat} {d' : Drawn} {ch : List Addr} (I : Inv X pins σ H s)
  (hch : ∀ b ∈ ch, (b ∈ X.ex ∨ X.s₀.heap.objs.size ≤ b) ∧ b ≠ X.env.locals ∧ (∀ x c, X.env.cells.lookup x = some c → c ≠ b) ∧ ∀ p ∈ X.pn ++ pins, p.1 ≠ b)
  (keep : ∀ b o, b ≠ X.env.locals → b ∉ X.fs → b ∉ ch → s.heap.get? b = some o → H b = none → h'.get? b = some o)
  (slot : ∀ b o, b ≠ X.env.locals → b ∈ X.fs → b ∉ ch → s.heap.get? b = some o → H b = none → ∃ sl, h'.get? b = some { o with slots := sl }) (free : ∀ b o, b ∉ ch → s.heap.get? b = some o → H b = none → H' b = none)
  (there : ∀ b o, b ∉ ch → s.heap.get? b = some o → ∃ o', h'.get? b = some o')
  (tups : ∀ b xs, H b = some (.tup xs) → H' b = some (.tup xs)) (frzs : ∀ b o u, H b = some (.frz o u) → H' b = some (.frz o u)) (tbls : ∀ b ps, H b = some (.tbl ps) → ∃ more, H' b = some (.tbl (ps ++ more)))
  (ns : ∀ m, s.heap.Ns X.env.locals m → h'.Ns X.env.locals m) (hok : HOk X.prog X.w H' h') (hg : AllBare g') :
  Inv X pins σ H' { s with heap := h', gens := g', drawn := d', toks := t' } := by
 have neL : ∀ b o, X.s₀.heap.get? b = some o → b ≠ X.env.locals := fun b o e => Nat.ne_of_lt (Nat.lt_of_lt_of_le (Heap.lt_size e) I.ok.above)
 have neC : ∀ b o, X.s₀.heap.get? b = some o → b ∉ X.ex → b ∉ ch := fun b o e hx hb => by
  rcases (hch b hb).1 with z | z
  ·exact hx z
  ·exact absurd (Nat.lt_of_lt_of_le (Heap.lt_size e) z) (Nat.lt_irrefl _)
 have cellK : ∀ x c, X.env.cells.lookup x = some c → ∀ v, s.heap.IsCell c v → h'.IsCell c v := fun x c e v ⟨o, ho, hd⟩ => by
  have nch : c ∉ ch := fun z => (hch c z).2.2.1 x c e rfl
  by_cases hc : c ∈ X.fs
  ·obtain ⟨sl, q⟩ := slot c o (I.cne x c e) hc nch ho (I.freeC x c e)
   exact ⟨_, q, hd⟩
  ·exact ⟨o, keep c o (I.cne x c e) hc nch ho (I.freeC x c e), hd⟩
 refine ⟨I.ok, I.os, hg, ⟨fun b o e n hb hx => ?_, fun b o e n hb hx => ?_, fun b o e n hx => ?_, fun b o e hx => ?_, fun b xs e => tups b xs (I.base.tups b xs e), fun b o xs e => frzs b o xs (I.base.frzs b o xs e), fun b ps e => ?_⟩, ?_, fun x c e => ?_, ?_, fun x c e => ?_, fun p hp => ?_, hok, I.len⟩
 ·exact keep b o (neL b o e) hb (neC b o e hx) (I.base.keep b o e n hb hx) (I.base.free b o e n hx)
 ·obtain ⟨sl, e1⟩ := I.base.slot b o e n hb hx
  obtain ⟨sl', e2⟩ := slot b _ (neL b o e) hb (neC b o e hx) e1 (I.base.free b o e n hx)
  exact ⟨sl', e2⟩
 ·obtain ⟨o', e1⟩ := I.base.there b o e hx
  exact free b o' (neC b o e hx) e1 (I.base.free b o e n hx)
 ·obtain ⟨o', e1⟩ := I.base.there b o e hx
  exact there b o' (neC b o e hx) e1
 ·obtain ⟨m1, e1⟩ := I.base.tbls b ps e
  obtain ⟨m2, e2⟩ := tbls b _ e1
  exact ⟨m1 ++ m2, by rw [e2, Array.append_assoc]⟩
 ·obtain ⟨m, hn, hl⟩ := I.loc
  refine ⟨m, ns m hn, fun i x v e1 e2 e3 => ?_⟩
  obtain ⟨u, r, l⟩ := hl i x v e1 e2 e3
  refine ⟨u, r, ?_⟩
  rcases l with l | ⟨k, c, e, z⟩
  ·exact .inl l
  ·exact .inr ⟨k, c, e, cellK x c e _ z⟩
 ·obtain ⟨v, z⟩ := I.cell x c e
  exact ⟨v, cellK x c e v z⟩
 ·obtain ⟨m, ⟨o, _, _, ho, _⟩, _⟩ := I.loc
  exact free _ o (fun z => (hch _ z).2.1 rfl) ho I.free
 ·obtain ⟨v, o, ho, hd⟩ := I.cell x c e
  exact free c o (fun z => (hch c z).2.2.1 x c e rfl) ho (I.freeC x c e)
 ·obtain ⟨e, n, ne, nf, d⟩ := I.pin p hp
  have nch : p.1 ∉ ch := fun z => (hch p.1 z).2.2.2 p hp rfl
  exact ⟨keep p.1 p.2 ne nf nch e n, free p.1 p.2 nch e n, ne, nf, d⟩
theorem Inv.un {t' : Nat} (I : Inv X pins σ H s) (u : Un X.fs [] H H' s.heap h') (hok : HOk X.prog X.w H' h') : Inv X pins σ H' { s with heap := h', toks := t' } := by
 obtain ⟨m, ⟨o, es, ep, ho, r⟩, _⟩ := id I.loc
 obtain ⟨sl, hL⟩ := u.any ho I.free (by simp)
 exact I.step (g' := s.gens) (d' := s.drawn) (ch := []) (fun _ z => nomatch z) (fun b o _ hb _ e n => u.keep b o e n hb (by simp)) (fun b o _ hb _ e n => u.slot b o e n hb (by simp)) (fun b o _ e n => u.free b o e n (by simp)) (fun b o _ e => u.there b o e (by simp)) u.tups u.frzs u.tbls (fun m' hm => by
  obtain ⟨o', es', ep', ho', r'⟩ := hm
  rw [ho] at ho'; cases ho'
  exact ⟨_, es', ep', hL, r'⟩) hok I.bare
theorem Inv.call {g' : Array GenState} {t' : Nat} {d' : Drawn} {ch : List Addr} (I : Inv X pins σ H s) (u : Un (frs X.stack) ch H H' s.heap h') (hok : HOk X.prog X.w H' h') (hg : AllBare g')
  (hch : ∀ b ∈ ch, (b ∈ X.ex ∨ X.s₀.heap.objs.size ≤ b) ∧ b ≠ X.env.locals ∧ (∀ x c, X.env.cells.lookup x = some c → c ≠ b) ∧ ∀ p ∈ X.pn ++ pins, p.1 ≠ b) :
  Inv X pins σ H' { s with heap := h', gens := g', drawn := d', toks := t' } := by
 obtain ⟨m, ⟨o, es, ep, ho, r⟩, _⟩ := id I.loc
 obtain ⟨sl, hL⟩ := u.any ho I.free fun z => (hch _ z).2.1 rfl
 exact I.step (ch := ch) hch (fun b o hL hb hc e n => u.keep b o e n (fun z => (List.mem_cons.mp (I.stkSub b z)).elim hL hb) hc) (fun b o _ _ hc e n => u.any e n hc) (fun b o hc e n => u.free b o e n hc) (fun b o hc e => u.there b o e hc) u.tups u.frzs u.tbls (fun m' hm => by
  obtain ⟨o', es', ep', ho', r'⟩ := hm
  rw [ho] at ho'; cases ho'
  exact ⟨_, es', ep', hL, r'⟩) hok hg
theorem Inv.turned {t' : Nat} {it : Addr} (I : Inv X pins σ H s) (k : ∀ b o, b ≠ it → s.heap.get? b = some o → h'.get? b = some o) (hn : H it = none) (hL : it ≠ X.env.locals)
  (h1 : it ∈ X.ex ∨ X.s₀.heap.objs.size ≤ it) (h2 : ∀ x c, X.env.cells.lookup x = some c → c ≠ it) (h3 : ∀ p ∈ X.pn ++ pins, p.1 ≠ it) : Inv X pins σ H { s with heap := h', toks := t' } := by
 have nit : ∀ b u, H b = some u → b ≠ it := fun b u e z => by rw [z, hn] at e; cases e
 refine I.step (g' := s.gens) (d' := s.drawn) (ch := [it]) (fun b hb => ?_) (fun b o _ _ hc e _ => k b o (fun z => hc (by simp [z])) e) (fun b o _ _ hc e _ => ⟨o.slots, k b o (fun z => hc (by simp [z])) e⟩) (fun _ _ _ _ n => n)
  (fun b o hc e => ⟨o, k b o (fun z => hc (by simp [z])) e⟩) (fun _ _ e => e) (fun _ _ _ e => e) (fun b ps e => ⟨#[], by rw [e]; simp⟩) (fun m hm => ?_) (fun b u e => ?_) I.bare
 ·have e : b = it := by simpa using hb
  subst e
  exact ⟨h1, hL, h2, h3⟩
 ·obtain ⟨o, es, ep, ho, r⟩ := hm
  exact ⟨o, es, ep, k _ o (Ne.symm hL) ho, r⟩
 ·refine (I.hok b u e).stay (fun c v hc q => k c v ?_ q) (fun _ q => q) fun _ _ q => q
  rcases hc with z | z
  ·rw [z]; exact nit b u e
  ·exact nit c _ z
theorem Inv.tok (I : Inv X pins σ H s) (t : Nat) : Inv X pins σ H { s with toks := t } := I.un (h' := s.heap) (t' := t) Un.refl I.hok
theorem Inv.kept {t' : Nat} (I : Inv X pins σ H s) (k : ∀ b u, s.heap.get? b = some u → h'.get? b = some u) : Inv X pins σ H { s with heap := h', toks := t' } := I.un (Un.kept k) (I.hok.kept k)
theorem Inv.laid {a : Addr} {o : HO} {t' : Nat} (I : Inv X pins σ H s) (k : ∀ b u, s.heap.get? b = some u → h'.get? b = some u) (hp : s.heap.objs.size ≤ a) (new : ObjOk X.prog X.w (upd H a o) h' a o) :
  Inv X pins σ (upd H a o) { s with heap := h', toks := t' } := I.un (Un.laid k hp (I.hok.fresh hp)) (I.hok.laid k hp new)
theorem Inv.write {x e : Addr} {o : HO} {t' : Nat} (I : Inv X pins σ H s) (mu : Mut (H x)) (he : e = x ∨ H e = some (.own x)) (k : ∀ b u, b ≠ e → s.heap.get? b = some u → h'.get? b = some u) (heo : ∃ u, h'.get? e = some u)
  (new : ObjOk X.prog X.w (upd H x o) h' x o) : Inv X pins σ (upd H x o) { s with heap := h', toks := t' } := I.un (Un.write mu he k heo) (I.hok.write mu he k heo new)
theorem Inv.pins_of {pins' : Pn} (I : Inv X pins σ H s) (h : ∀ p ∈ pins', s.heap.get? p.1 = some p.2 ∧ H p.1 = none ∧ p.1 ≠ X.env.locals ∧ p.1 ∉ X.fs ∧ ∀ v, p.2.data ≠ .cell v) : Inv X pins' σ H s :=
 ⟨I.ok, I.os, I.bare, I.base, I.loc, I.cell, I.free, I.freeC, fun p hp => (List.mem_append.mp hp).elim (fun z => I.pin p (List.mem_append_left _ z)) (h p), I.hok, I.len⟩
theorem QgY {N : List Str} (hN : N.Nodup) {i j : Nat} {x : Str} (a : N[i]? = some x) (b : N[j]? = some x) : i = j := by
 obtain ⟨h1, e1⟩ := List.getElem?_eq_some_iff.mp a
 obtain ⟨h2, e2⟩ := List.getElem?_eq_some_iff.mp b
 exact (List.getElem_inj hN).mp (e1.trans e2.symm)
theorem QjW {M : Model} {A : Around} {E : Value → Shared → Prop} {i : Nat} {x : Str} {v : V} {u : Value} {Q : Unit → Shared → Prop} (I : Inv X pins σ H s) (hN : X.N.Nodup) (hi : X.N[i]? = some x) (hx : Loc X.env.scope x) (r : RelV v u)
  (h : ∀ s', Inv X pins (σ.set i (some v)) H s' → (∃ a, Heap.SameBut a s.heap s'.heap ∧ (a = X.env.locals ∨ X.env.cells.lookup x = some a)) → Q () s') (hf : X.fn x = true ∨ X.env.scope.names.lookup x = some .local := by first | exact .inl rfl | exact .inr rfl | assumption) : wpAny M A (storeName X.env x u) Q E s := by
 obtain ⟨m, hn, hl⟩ := id I.loc
 have hcls : (X.env.scope.kind == .class || (X.env.scope.kind == .module && X.env.locals != X.env.globals)) = false := by rw [I.ok.kind]; rfl
 have hiσ : i < σ.length := by rw [I.len]; exact (List.getElem?_eq_some_iff.mp hi).1
 have cne := I.cne
 have tracked : ∀ {a : Addr} {h' : Heap}, (∃ o, s.heap.get? a = some o ∧ H a = none) → Heap.SameBut a s.heap h' → HOk X.prog X.w H h' := fun {a h'} ha hs b ob e => by
  obtain ⟨_, _, hfree⟩ := ha
  refine (I.hok b ob e).stay (fun c w' hc q => (hs.2 c ?_).trans q) (fun _ q => q) fun _ _ q => q
  rintro rfl
  rcases hc with rfl | hc
  ·rw [hfree] at e; cases e
  ·rw [hfree] at hc; cases hc
 rcases hx with hk | hk
 ·refine wpAny_storeName_local hk hn (fun h' hn' hs => ?_) hcls
  obtain ⟨oL, _, _, hoL, _⟩ := id hn
  refine h _ ⟨I.ok, I.os, I.bare, ⟨fun b o e n hb hx => ?_, fun b o e n hb hx => ?_, I.base.free, fun b o e hx => ?_, I.base.tups, I.base.frzs, I.base.tbls⟩, ⟨_, hn', fun j y v' e1 e2 e3 => ?_⟩, fun y c e => ?_, I.free, I.freeC, fun p hp => ?_, tracked ⟨oL, hoL, I.free⟩ hs, by simpa using I.len⟩ ⟨_, hs, .inl rfl⟩
  ·exact (hs.2 b (Nat.ne_of_lt (Nat.lt_of_lt_of_le (Heap.lt_size e) I.ok.above))).trans (I.base.keep b o e n hb hx)
  ·obtain ⟨sl, e1⟩ := I.base.slot b o e n hb hx
   exact ⟨sl, (hs.2 b (Nat.ne_of_lt (Nat.lt_of_lt_of_le (Heap.lt_size e) I.ok.above))).trans e1⟩
  ·obtain ⟨o', e1⟩ := I.base.there b o e hx
   exact ⟨o', (hs.2 b (Nat.ne_of_lt (Nat.lt_of_lt_of_le (Heap.lt_size e) I.ok.above))).trans e1⟩
  ·by_cases hj : j = i
   ·subst hj
    rw [hi] at e1; cases e1
    rw [List.getElem?_set_self hiσ] at e2
    cases e2
    exact ⟨u, r, .inl ⟨hk, by simp⟩⟩
   ·rw [List.getElem?_set_ne (Ne.symm hj)] at e2
    obtain ⟨u', r', q⟩ := hl j y v' e1 e2 e3
    refine ⟨u', r', ?_⟩
    rcases q with ⟨k, e⟩ | ⟨k, c, e, z⟩
    ·refine .inl ⟨k, ?_⟩
     have : y ≠ x := fun e => hj (QgY hN e1 (e ▸ hi))
     simp [this, e]
    ·exact .inr ⟨k, c, e, z.sameBut hs (cne y c e)⟩
  ·obtain ⟨w', z⟩ := I.cell y c e
   exact ⟨w', z.sameBut hs (cne y c e)⟩
  ·obtain ⟨e, n, ne, nf, d⟩ := I.pin p hp
   exact ⟨(hs.2 p.1 ne).trans e, n, ne, nf, d⟩
 ·have hfn : X.fn x = true := by
   rcases hf with z | z
   ·exact z
   ·rw [z] at hk; cases hk
  obtain ⟨c, hc⟩ := I.ok.has x (.inl hk)
  obtain ⟨w', z⟩ := I.cell x c hc
  refine wpAny_storeName_cell I.ok.kind hk hc z (fun h' hc' hs => ?_)
  obtain ⟨oc, hoc, hocd⟩ := id z
  refine h { s with heap := h' } ⟨I.ok, I.os, I.bare, ⟨fun b o e n hb hx => ?_, fun b o e n hb hx => ?_, I.base.free, fun b o e hx => ?_, I.base.tups, I.base.frzs, I.base.tbls⟩, ⟨m, hn.sameBut hs (Ne.symm (cne x c hc)), fun j y v' e1 e2 e3 => ?_⟩, fun y c' e => ?_, I.free, I.freeC, fun p hp => ?_, tracked ⟨oc, hoc, I.freeC x c hc⟩ hs, by simpa using I.len⟩ ⟨c, hs, .inr hc⟩
  ·exact (hs.2 b (Nat.ne_of_lt (Nat.lt_of_lt_of_le (Heap.lt_size e) (I.ok.cab x c hfn hc)))).trans (I.base.keep b o e n hb hx)
  ·obtain ⟨sl, e1⟩ := I.base.slot b o e n hb hx
   exact ⟨sl, (hs.2 b (Nat.ne_of_lt (Nat.lt_of_lt_of_le (Heap.lt_size e) (I.ok.cab x c hfn hc)))).trans e1⟩
  ·obtain ⟨o', e1⟩ := I.base.there b o e hx
   exact ⟨o', (hs.2 b (Nat.ne_of_lt (Nat.lt_of_lt_of_le (Heap.lt_size e) (I.ok.cab x c hfn hc)))).trans e1⟩
  ·by_cases hj : j = i
   ·subst hj
    rw [hi] at e1; cases e1
    rw [List.getElem?_set_self hiσ] at e2
    cases e2
    exact ⟨u, r, .inr ⟨.inl hk, c, hc, hc'⟩⟩
   ·rw [List.getElem?_set_ne (Ne.symm hj)] at e2
    obtain ⟨u', r', q⟩ := hl j y v' e1 e2 e3
    refine ⟨u', r', ?_⟩
    rcases q with q | ⟨k, c', e, z'⟩
    ·exact .inl q
    ·refine .inr ⟨k, c', e, z'.sameBut hs ?_⟩
     rintro rfl
     exact hj (QgY hN e1 (I.ok.inj _ _ _ e hc ▸ hi))
  ·by_cases hcc : c' = c
   ·subst hcc; exact ⟨_, hc'⟩
   ·obtain ⟨w2, z2⟩ := I.cell y c' e
    exact ⟨w2, z2.sameBut hs hcc⟩
  ·obtain ⟨e, n, ne, nf, d⟩ := I.pin p hp
   refine ⟨(hs.2 p.1 ?_).trans e, n, ne, nf, d⟩
   intro q
   rw [q, hoc] at e
   have q' : oc = p.2 := Option.some.inj e
   exact d w' (by rw [← q']; exact hocd)
theorem Qbh {M : Model} {A : Around} {E : Value → Shared → Prop} {i : Nat} {x : Str} {v : V} {u : Value} {Q : Unit → Shared → Prop} (I : Inv X pins σ H s) (hN : X.N.Nodup) (hi : X.N[i]? = some x) (hx : Loc X.env.scope x) (r : RelV v u)
  (h : ∀ s', Inv X pins (σ.set i (some v)) H s' → Q () s') (hf : X.fn x = true ∨ X.env.scope.names.lookup x = some .local := by first | exact .inl rfl | exact .inr rfl | assumption) : wpAny M A (storeName X.env x u) Q E s :=
 QjW I hN hi hx r (fun s' I' _ => h s' I') hf
theorem Inv.call' {s' : Shared} {ch : List Addr} (I : Inv X pins σ H s) (ho : s'.os = s.os) (u : Un (frs X.stack) ch H H' s.heap s'.heap) (hok : HOk X.prog X.w H' s'.heap) (hg : AllBare s'.gens)
  (hch : ∀ b ∈ ch, (b ∈ X.ex ∨ X.s₀.heap.objs.size ≤ b) ∧ b ≠ X.env.locals ∧ (∀ x c, X.env.cells.lookup x = some c → c ≠ b) ∧ ∀ p ∈ X.pn ++ pins, p.1 ≠ b) : Inv X pins σ H' s' := by
 obtain ⟨h', g', d', t', o'⟩ := s'
 have e : o' = s.os := ho
 subst e
 exact I.call (g' := g') (t' := t') (d' := d') u hok hg hch
end
abbrev XK := Value → Option Addr → Hp → Prop
abbrev St := List (Option V)
abbrev VK := V → Hp → Prop
abbrev TE := St → Hp → VK → Prop
abbrev TT := St → Hp → (Bool → Hp → Prop) → Prop
abbrev TA := St → Hp → (List V → Hp → Prop) → Prop
structure QjL where
 nx : St → Hp → Prop
 rt : VK
 bk : St → Hp → Prop := fun _ _ => False
 ct : St → Hp → Prop := fun _ _ => False
abbrev TS := QjL → St → Hp → Prop
def EP (X : Cx) (pins : Pn) (σ : St) (Q : VK) (u : Value) (s' : Shared) : Prop := ∃ v H', Inv X pins σ H' s' ∧ RelV v u ∧ Q v H'
def TP (X : Cx) (pins : Pn) (σ : St) (Q : Bool → Hp → Prop) (b : Bool) (s' : Shared) : Prop := ∃ H', Inv X pins σ H' s' ∧ Q b H'
def AP (X : Cx) (pins : Pn) (σ : St) (Q : List V → Hp → Prop) (us : List Value) (s' : Shared) : Prop := ∃ vs H', Inv X pins σ H' s' ∧ Vals vs us ∧ Q vs H'
def SP (X : Cx) (pins : Pn) (D : QjL) (f : Flow) (s' : Shared) : Prop :=
 match f with
 | .next => ∃ σ' H', Inv X pins σ' H' s' ∧ D.nx σ' H'
 | .brk => ∃ σ' H', Inv X pins σ' H' s' ∧ D.bk σ' H'
 | .cont => ∃ σ' H', Inv X pins σ' H' s' ∧ D.ct σ' H'
 | .ret u => ∃ v σ' H', Inv X pins σ' H' s' ∧ RelV v u ∧ D.rt v H'
def PE (X : Cx) (e : Expr) (t : TE) : Prop :=
 ∀ (pins : Pn) (s : Shared) (σ : St) (H : Hp) (Q : VK), Inv X pins σ H s → t σ H Q → wpAny (model X.prog X.w) X.A (eval e X.env) (EP X pins σ Q) X.xe s
def PT (X : Cx) (e : Expr) (t : TT) : Prop :=
 ∀ (pins : Pn) (s : Shared) (σ : St) (H : Hp) (Q : Bool → Hp → Prop), Inv X pins σ H s → t σ H Q → wpAny (model X.prog X.w) X.A (isTrue e X.env (eval e X.env)) (TP X pins σ Q) X.xe s
def PW (X : Cx) (e : Expr) (t : TT) : Prop :=
 ∀ (whole : Sem Value) (pins : Pn) (s : Shared) (σ : St) (H : Hp) (Q : Bool → Hp → Prop), Inv X pins σ H s → t σ H Q → wpAny (model X.prog X.w) X.A (isTrue e X.env whole) (TP X pins σ Q) X.xe s
theorem PW.pt {X : Cx} {e : Expr} {t : TT} (h : PW X e t) : PT X e t := h _
def PA (X : Cx) (es : List Expr) (t : TA) : Prop :=
 ∀ (pos : Pos) (pins : Pn) (s : Shared) (σ : St) (H : Hp) (Q : List V → Hp → Prop), Inv X pins σ H s → t σ H Q → wpAny (model X.prog X.w) X.A (spliced (backTo pos (starEach es X.env))) (AP X pins σ Q) X.xe s
def PS (X : Cx) (st : Stmt) (t : TS) : Prop :=
 ∀ (pins : Pn) (s : Shared) (σ : St) (H : Hp) (D : QjL), Inv X pins σ H s → t D σ H → wpAny (model X.prog X.w) X.A (exec st X.env) (SP X pins D) X.xe s
def PSs (X : Cx) (st : List Stmt) (t : TS) : Prop :=
 ∀ (pins : Pn) (s : Shared) (σ : St) (H : Hp) (D : QjL), Inv X pins σ H s → t D σ H → wpAny (model X.prog X.w) X.A (execs st X.env) (SP X pins D) X.xe s
theorem thn {α : Type} {t : Sem α} {Q Q' : α → Shared → Prop} {M : Model} {A : Around} {E : Value → Shared → Prop} {s : Shared} (h : wpAny M A t Q E s) (hQ : ∀ a s, Q a s → Q' a s) : wpAny M A t Q' E s := wpAny_mono h hQ fun _ _ x => x
end L2
namespace L2
open PySem PySem.Spec PyProof.Rows
section
variable {X : Cx}
def tVar (i : Nat) : TE := fun σ H Q => ∃ v, σ[i]? = some (some v) ∧ Q v H
def tC (v : V) : TE := fun _ H Q => Q v H
theorem pe_var {i : Nat} {x : Str} {pos : Pos} (hN : X.N[i]? = some x) (hv : Vis X.env.scope x) (hd : (x == ("__debug__" : Str)) = false := by decide) (hcd : (x == ("__classdict__" : Str)) = false := by decide) : PE X (.Name x pos) (tVar i) := by
 intro pins s σ H Q I h
 obtain ⟨v, e, h⟩ := h
 obtain ⟨m, hn, hl⟩ := I.loc
 obtain ⟨u, r, l⟩ := hl i x v hN e hv
 have fin : EP X pins σ Q u s := ⟨v, H, I, r, h⟩
 rcases l with ⟨hk, hm⟩ | ⟨hk, c, hc, hcell⟩
 ·exact wpAny_Name (wpAny_loadName_local I.ok.kind hk hn hm fin) hd
 ·rcases hk with hk | hk
  ·exact wpAny_Name (wpAny_loadName_cell I.ok.kind hk hc hcell fin) hd
  ·exact wpAny_Name (wpAny_loadName_free I.ok.kind hk hc hcell fin hcd) hd
theorem Qi {i j pos} : PE X (.Constant (.int i) j pos) (tC (.int i)) := fun _ _ _ H _ I h => wpAny_Constant_int ⟨.int i, H, I.tok _, ⟨_, rfl⟩, h⟩
theorem Qce {b j pos} : PE X (.Constant (.bool b) j pos) (tC (.bl b)) := fun _ _ _ H _ I h => Constant_bool ⟨.bl b, H, I, rfl, h⟩
theorem Qdc {j pos} : PE X (.Constant .none j pos) (tC .non) := fun _ _ _ H _ I h => Constant_none ⟨.non, H, I, rfl, h⟩
theorem Qab {x j pos} : PE X (.Constant (.str x) j pos) (tC (.str x)) := fun _ _ _ H _ I h => Calls.Constant_str ⟨.str x, H, I.tok _, ⟨_, rfl⟩, h⟩
def Gl (X : Cx) (x : Str) : Prop := X.env.kindOf x = some .globalImplicit
theorem Qej {E : Value → Shared → Prop} {pins : Pn} {s : Shared} {σ : St} {H : Hp} {x : Str} {u : Value} {pos : Pos} {Q : Value → Shared → Prop} (I : Inv X pins σ H s) (hg : Gl X x) (hm : X.mg x = some u) (h : Q u s)
  (hd : (x == ("__debug__" : Str)) = false := by decide) : wpAny (model X.prog X.w) X.A (eval (.Name x pos) X.env) Q E s :=
 Calls.Name_function_global I.ok.kind hg (Calls.loadGlobal_global (by rw [I.ok.glob]; exact I.mod.glob.keeps I.bk) hm h) hd
theorem QfJ {E : Value → Shared → Prop} {pins : Pn} {s : Shared} {σ : St} {H : Hp} {x : Str} {u : Value} {pos : Pos} {Q : Value → Shared → Prop} (I : Inv X pins σ H s) (hg : Gl X x) (hm : X.mg x = none) (hv : bootBuiltins x = some u) (h : Q u s)
  (hn : x ≠ "__name__" := by decide) (hd : (x == ("__debug__" : Str)) = false := by decide) : wpAny (model X.prog X.w) X.A (eval (.Name x pos) X.env) Q E s := by
 obtain ⟨mb, h1, h2⟩ := I.mod.blt
 exact Calls.Name_function_global I.ok.kind hg (Calls.loadGlobal_builtin (by rw [I.ok.glob]; exact I.mod.glob.keeps I.bk) hm (by rw [I.ok.blt]; exact h1.keeps I.bk) ((h2 x hn).trans hv) h) hd
theorem Qac {x : Str} {v : V} {u : Value} {pos : Pos} (hg : Gl X x) (hm : X.mg x = some u) (r : RelV v u) (hd : (x == ("__debug__" : Str)) = false := by decide) : PE X (.Name x pos) (tC v) :=
 fun _ _ _ H _ I h => Qej I hg hm ⟨v, H, I, r, h⟩ hd
theorem QcB {x : Str} {v : V} {u : Value} {pos : Pos} (hg : Gl X x) (hm : X.mg x = none) (hv : bootBuiltins x = some u) (r : RelV v u) (hn : x ≠ "__name__" := by decide) (hd : (x == ("__debug__" : Str)) = false := by decide) : PE X (.Name x pos) (tC v) :=
 fun _ _ _ H _ I h => QfJ I hg hm hv ⟨v, H, I, r, h⟩ hn hd
variable {a b : Expr} {ta tb : TE} {pos : Pos}
def PC (X : Cx) (op : CmpOp) (a b : Expr) (t : TE) : Prop :=
 ∀ (pins : Pn) (s : Shared) (σ : St) (H : Hp) (Q : VK), Inv X pins σ H s → t σ H Q →
  wpAny (model X.prog X.w) X.A (eval a X.env) (fun v s₁ => wpAny (model X.prog X.w) X.A (eval b X.env) (fun u s₂ => wpAny (model X.prog X.w) X.A (compareOp op v u) (EP X pins σ Q) X.xe s₂) X.xe s₁) X.xe s
theorem QiY (b : Expr) {op : CmpOp} (h : op ≠ .In) (h2 : op ≠ .NotIn) : behindInMarks op b = false := by
 have e1 : (op == CmpOp.In) = false := by cases op <;> first | rfl | exact absurd rfl h
 have e2 : (op == CmpOp.NotIn) = false := by cases op <;> first | rfl | exact absurd rfl h2
 cases b <;> simp [behindInMarks, e1, e2]
def tIsN (ta : TE) : TE := fun σ H Q => ta σ H fun x H1 => Q (.bl (decide (x = .non))) H1
def tNotN (ta : TE) : TE := fun σ H Q => ta σ H fun x H1 => Q (.bl (!decide (x = .non))) H1
theorem RelV.none_iff {x : V} {v : Value} (r : RelV x v) : (v == Value.none) = decide (x = .non) := by
 cases x with
 | non => cases r; rfl
 | bl _ => cases r; rfl
 | int _ => obtain ⟨t, rfl⟩ := r; rfl
 | str _ => obtain ⟨t, rfl⟩ := r; rfl
 | byt _ => obtain ⟨t, rfl⟩ := r; rfl
 | flt _ => obtain ⟨t, rfl⟩ := r; rfl
 | ref _ => cases r; rfl
 | ty _ => cases r; rfl
theorem Qhz {j pos'} (ha : PE X a ta) : PC X .Is a (.Constant .none j pos') (tIsN ta) := by
 intro pins s σ H Q I h
 refine thn (ha pins s σ H _ I h) fun v s1 ⟨x, H1, I1, r1, q1⟩ => ?_
 exact Constant_none (is_none_gen ⟨.bl _, H1, I1, by rw [r1.none_iff]; rfl, q1⟩)
theorem Qbz {j pos'} (ha : PE X a ta) : PC X .IsNot a (.Constant .none j pos') (tNotN ta) := by
 intro pins s σ H Q I h
 refine thn (ha pins s σ H _ I h) fun v s1 ⟨x, H1, I1, r1, q1⟩ => ?_
 exact Constant_none (isnot_none_gen ⟨.bl _, H1, I1, by rw [r1.none_iff]; rfl, q1⟩)
def tB (t : TE) : TT := fun σ H Q => t σ H fun x H1 => ∃ c, x = .bl c ∧ Q c H1
theorem Qmf {op : CmpOp} {t : TE} (h : PC X op a b t) (h1 : behindInMarks op b = false := by first | exact QiY _ (by decide) (by decide) | rfl) : PE X (.Compare a [op] [b] pos) t := fun pins s σ H Q I hw => wpAny_Compare1 (h pins s σ H Q I hw) h1
theorem Qag {op : CmpOp} {t : TE} (h : PC X op a b t) (h1 : behindInMarks op b = false := by first | exact QiY _ (by decide) (by decide) | rfl) : PT X (.Compare a [op] [b] pos) (tB t) := by
 intro pins s σ H Q I hw
 refine wpAny_isTrue_Compare1 (thn (h pins s σ H _ I hw) fun v s1 h1 => thn h1 fun u s2 h2 => thn h2 fun c s3 ⟨x, H1, I1, r1, q1⟩ => ?_) h1
 obtain ⟨d, rfl, q⟩ := q1
 cases r1
 exact wpAny_truthy_bool ⟨H1, I1, q⟩
theorem QaD {e : Expr} {t : TE} (h : PE X e t) (he : ∀ whole, isTrue e X.env whole = (do let v ← whole; standAt e.pos; holding [v] (truthy v)) := by intro _; rfl) : PT X e (tB t) := by
 intro pins s σ H Q I hw
 refine isTrue_plain (thn (h pins s σ H _ I hw) fun v s1 ⟨x, H1, I1, r1, q1⟩ => ?_) (he _)
 obtain ⟨d, rfl, q⟩ := q1
 cases r1
 exact wpAny_truthy_bool ⟨H1, I1, q⟩
variable {tA tB' : TT} {Qkk : List Expr}
def tOr (t u : TT) : TT := fun σ H Q => t σ H fun c H1 => if c = true then Q true H1 else u σ H1 Q
def tNot (t : TT) : TT := fun σ H Q => t σ H fun c H1 => Q (!c) H1
theorem Qcc (ha : PT X a tA) : PW X (.BoolOp .Or [a] pos) tA := by
 intro wh pins s σ H Q I h
 refine isTrue_or (thn (ha pins s σ H Q I h) fun c s1 e => ?_)
 cases c with
 | false => exact isTrue_or_nil e
 | true => exact e
theorem QeH (ha : PT X a tA) (hb : PW X (.BoolOp .Or (b :: Qkk) pos) tB') : PW X (.BoolOp .Or (a :: b :: Qkk) pos) (tOr tA tB') := by
 intro wh pins s σ H Q I h
 refine isTrue_or (thn (ha pins s σ H _ I h) fun c s1 ⟨H1, I1, q1⟩ => ?_)
 cases c with
 | true => exact ⟨H1, I1, q1⟩
 | false => exact hb wh pins s1 σ H1 Q I1 q1
theorem Qbm (ha : PT X a tA) : PT X (.UnaryOp .Not a pos) (tNot tA) := by
 intro pins s σ H Q I h
 exact isTrue_not (ha pins s σ H (fun c H1 => Q (!c) H1) I h)
def tAndV (ta tb : TE) : TE := fun σ H Q => ta σ H fun x H1 => ∃ c, x = .bl c ∧ if c = true then tb σ H1 Q else Q (.bl false) H1
def tNotV (ta : TE) : TE := fun σ H Q => ta σ H fun x H1 => ∃ c, x = .bl c ∧ Q (.bl (!c)) H1
theorem Qfo {op} {t : TE} (h : PE X a t) : PE X (.BoolOp op [a] pos) t := fun pins s σ H Q I hw => BoolOp_one (h pins s σ H Q I hw)
theorem QdK (ha : PE X a ta) (hb : PE X (.BoolOp .And (b :: Qkk) pos) tb) : PE X (.BoolOp .And (a :: b :: Qkk) pos) (tAndV ta tb) := by
 intro pins s σ H Q I h
 refine BoolOp_and (thn (ha pins s σ H _ I h) fun v s1 ⟨x, H1, I1, r1, q1⟩ => ?_)
 obtain ⟨c, rfl, q1⟩ := q1
 cases r1
 refine wpAny_truthy_bool ?_
 cases c with
 | true => exact hb pins s1 σ H1 Q I1 q1
 | false => exact ⟨.bl false, H1, I1, rfl, q1⟩
theorem pe_not (ha : PE X a ta) : PE X (.UnaryOp .Not a pos) (tNotV ta) := by
 intro pins s σ H Q I h
 refine UnaryOp_ (thn (ha pins s σ H _ I h) fun v s1 ⟨x, H1, I1, r1, q1⟩ => ?_)
 obtain ⟨c, rfl, q1⟩ := q1
 cases r1
 exact not_of (wpAny_truthy_bool ⟨.bl (!c), H1, I1, rfl, q1⟩)
end
end L2
namespace L2
open PySem PySem.Spec PyProof.Rows
def SqL (K : Fg) (H : Hp) (a : Addr) (xs : List V) : Prop :=
 Rd H a (.lst xs) ∨
  ∃ (o : Obj) (its : Array Value) (n : Nat), K.lookup a = some o ∧ o.cls = .type "list" ∧ o.dict = none ∧ o.data = .seq its n ∧ its.size ≤ sizeLine ∧ Vals xs its.toList
def SqT (K : Fg) (H : Hp) (a : Addr) (xs : List V) : Prop :=
 Rd H a (.tup xs) ∨
  ∃ (o : Obj) (its : Array Value) (n : Nat), K.lookup a = some o ∧ o.cls = .type "tuple" ∧ o.data = .seq its n ∧ its.size ≤ sizeLine ∧ Vals xs its.toList
def absV : Value → Option V
 | .none => some .non
 | .bool b => some (.bl b)
 | .int i _ => some (.int i)
 | .str x _ => some (.str x)
 | .bytes b _ => some (.byt b)
 | .float b _ => some (.flt b)
 | .ref a => some (.ref a)
 | .type n => some (.ty n)
 | _ => none
theorem RelV.abs {x : V} {u : Value} (r : RelV x u) : absV u = some x := by
 cases x with
 | non => cases r; rfl
 | bl _ => cases r; rfl
 | int _ => obtain ⟨t, rfl⟩ := r; rfl
 | str _ => obtain ⟨t, rfl⟩ := r; rfl
 | byt _ => obtain ⟨t, rfl⟩ := r; rfl
 | flt _ => obtain ⟨t, rfl⟩ := r; rfl
 | ref _ => cases r; rfl
 | ty _ => cases r; rfl
theorem RelV.inj {x y : V} {u : Value} (r : RelV x u) (q : RelV y u) : x = y := Option.some.inj (r.abs.symm.trans q.abs)
theorem Vals.inj : ∀ {xs ys : List V} {us : List Value}, Vals xs us → Vals ys us → xs = ys
 | _, _, _, .nil, .nil => rfl
 | _, _, _, .cons r t, .cons r' t' => by rw [r.inj r', Vals.inj t t']
section
variable {X : Cx} {pins : Pn} {σ : St} {H : Hp} {s : Shared} {a : Addr} {xs ys : List V}
theorem SqL.of {K : Fg} (h : H a = some (.lst xs)) : SqL K H a xs := .inl (.inl h)
theorem SqT.of {K : Fg} (h : H a = some (.tup xs)) : SqT K H a xs := .inl (.inl h)
theorem Inv.list (I : Inv X pins σ H s) (h : SqL X.K H a xs) : ∃ its : List Value, Vals xs its ∧ PlainL s.heap a its.toArray ∧ xs.length ≤ sizeLine := by
 rcases h with h | ⟨o, its, n, hk, hc, hd, hs, hz, r⟩
 ·obtain ⟨z, its, n, r, e⟩ := h.ok I.hok
  exact ⟨its, r, ⟨_, n, e, rfl, rfl, rfl⟩, z⟩
 ·refine ⟨its.toList, r, ⟨o, n, I.kIn a o hk, hc, hd, by simpa using hs⟩, ?_⟩
  have e := r.length
  simp only [Array.length_toList] at e
  omega
theorem Inv.tuple (I : Inv X pins σ H s) (h : SqT X.K H a xs) : ∃ its : List Value, Vals xs its ∧ IsTup s.heap a its.toArray ∧ xs.length ≤ sizeLine := by
 rcases h with h | ⟨o, its, n, hk, hc, hs, hz, r⟩
 ·obtain ⟨z, its, r, p⟩ := h.ok I.hok
  exact ⟨its, r, p, z⟩
 ·refine ⟨its.toList, r, ⟨o, I.kIn a o hk, hc, n, by simpa using hs⟩, ?_⟩
  have e := r.length
  simp only [Array.length_toList] at e
  omega
theorem Inv.list_inj (I : Inv X pins σ H s) (h : SqL X.K H a xs) (h' : SqL X.K H a ys) : xs = ys := by
 obtain ⟨its, r, ⟨o, n, e, _, _, d⟩, _⟩ := I.list h
 obtain ⟨its', r', ⟨o', n', e', _, _, d'⟩, _⟩ := I.list h'
 rw [e] at e'; cases e'
 rw [d] at d'
 injection d' with d1 _
 have : its = its' := by simpa using congrArg Array.toList d1
 subst this
 exact r.inj r'
end
abbrev Cx.wish (X : Cx) (E : Value → Shared → Prop) : Cx := { X with xe := E }
abbrev Cx.nox (X : Cx) : Cx := X.wish fun _ _ => False
theorem Cx.Ok.wish {X : Cx} (ok : X.Ok) (E : Value → Shared → Prop) : (X.wish E).Ok :=
 ⟨ok.mod, ok.kind, ok.glob, ok.blt, ok.above, ok.inj, ok.has, ok.cab, ok.hd, ok.frames, ok.stk, ok.exf, ok.bs, ok.bsz, ok.noex, ok.exfs, ok.funs, ok.frf⟩
theorem Cx.Ok.unwish {X : Cx} {E : Value → Shared → Prop} (ok : (X.wish E).Ok) : X.Ok :=
 ⟨ok.mod, ok.kind, ok.glob, ok.blt, ok.above, ok.inj, ok.has, ok.cab, ok.hd, ok.frames, ok.stk, ok.exf, ok.bs, ok.bsz, ok.noex, ok.exfs, ok.funs, ok.frf⟩
section
variable {X : Cx} {pins : Pn} {σ : St} {H : Hp} {s : Shared} {E : Value → Shared → Prop}
theorem Inv.wish (I : Inv X pins σ H s) (E : Value → Shared → Prop) : Inv (X.wish E) pins σ H s := ⟨I.ok.wish E, I.os, I.bare, I.base, I.loc, I.cell, I.free, I.freeC, I.pin, I.hok, I.len⟩
theorem Inv.unwish (I : Inv (X.wish E) pins σ H s) : Inv X pins σ H s := ⟨I.ok.unwish, I.os, I.bare, I.base, I.loc, I.cell, I.free, I.freeC, I.pin, I.hok, I.len⟩
theorem SP.unwish {D : QjL} {f : Flow} {s' : Shared} (h : SP (X.wish E) pins D f s') : SP X pins D f s' := by
 cases f with
 | next => obtain ⟨σ', H', I, q⟩ := h; exact ⟨σ', H', I.unwish, q⟩
 | brk => obtain ⟨σ', H', I, q⟩ := h; exact ⟨σ', H', I.unwish, q⟩
 | cont => obtain ⟨σ', H', I, q⟩ := h; exact ⟨σ', H', I.unwish, q⟩
 | ret u => obtain ⟨v, σ', H', I, r, q⟩ := h; exact ⟨v, σ', H', I.unwish, r, q⟩
theorem PSs.nox {st : List Stmt} {t : TS} (h : PSs X.nox st t) : PSs X st t := fun pins s σ H D I hw =>
 wpAny_mono (h pins s σ H D (I.wish _) hw) (fun _ _ q => q.unwish) fun _ _ z => False.elim z
end
section
variable {X : Cx} {st : Stmt} {Qkk : List Stmt} {t u : TS} {e : Expr} {te : TE} {pos : Pos}
def tNext : TS := fun D σ H => D.nx σ H
def tSeq (t u : TS) : TS := fun D σ H => t { D with nx := u D } σ H
theorem Qn : PSs X [] tNext := fun _ _ σ H _ I h => wpAny_execs_nil ⟨σ, H, I, h⟩
theorem Qb (h1 : PS X st t) (h2 : PSs X Qkk u) : PSs X (st :: Qkk) (tSeq t u) := by
 intro pins s σ H D I h
 refine wpAny_execs_cons (thn (h1 pins s σ H { D with nx := u D } I h) fun f s1 q => ?_)
 cases f with
 | next =>
  obtain ⟨σ', H', I', q⟩ := q
  exact h2 pins s1 σ' H' D I' q
 | ret v => exact q
 | brk => exact q
 | cont => exact q
theorem Qe (h1 : PS X st t) : PSs X [st] t := by
 intro pins s σ H D I h
 refine wpAny_execs_cons (thn (h1 pins s σ H D I h) fun f s1 q => ?_)
 cases f with
 | next => exact wpAny_execs_nil q
 | ret v => exact q
 | brk => exact q
 | cont => exact q
theorem Inv.quiet {pins : Pn} {σ : St} {H : Hp} {s : Shared} (I : Inv X pins σ H s) : interactive X.env = false := by simp [interactive, I.ok.kind]
def tDrop (te : TE) : TS := fun D σ H => te σ H fun _ H1 => D.nx σ H1
theorem Qk (he : PE X e te) (hs : swapsWith e none pos.line X.env = pure false := by rfl) : PS X (.Expr e pos) (tDrop te) := by
 intro pins s σ H D I h
 exact wpAny_Expr_any (thn (he pins s σ H _ I h) fun v s1 ⟨x, H1, I1, r1, q1⟩ => ⟨σ, H1, I1, q1⟩) I.quiet hs
def tRet (te : TE) : TS := fun D σ H => te σ H D.rt
theorem Qq (he : PE X e te) : PS X (.Return (some e) pos) (tRet te) := by
 intro pins s σ H D I h
 exact wpAny_Return_some (thn (he pins s σ H _ I h) fun v s1 ⟨x, H1, I1, r1, q1⟩ => ⟨x, σ, H1, I1, r1, q1⟩)
def tIfS (c : TT) (t u : TS) : TS := fun D σ H => c σ H fun b H1 => if b = true then t D σ H1 else u D σ H1
theorem QA {c : Expr} {a b : List Stmt} {tc : TT} (hc : PT X c tc) (ha : PSs X a t) (hb : PSs X b u) : PS X (.If c a b pos) (tIfS tc t u) := by
 intro pins s σ H D I h
 refine wpAny_If (thn (hc pins s σ H _ I h) fun d s1 ⟨H1, I1, q1⟩ => ?_)
 cases d with
 | true => exact ha pins s1 σ H1 D I1 q1
 | false => exact hb pins s1 σ H1 D I1 q1
def Ql2 : TS := fun _ _ _ => False
theorem QdI : PS X st Ql2 := fun _ _ _ _ _ _ h => h.elim
theorem QP {sts : List Stmt} : PSs X sts Ql2 := fun _ _ _ _ _ _ h => h.elim
end
abbrev TG := V → St → Hp → (St → Hp → Prop) → Prop
abbrev TGs := List V → St → Hp → (St → Hp → Prop) → Prop
def PG (X : Cx) (target : Expr) (t : TG) : Prop :=
 ∀ (pins : Pn) (s : Shared) (σ : St) (H : Hp) (v : V) (u : Value) (Q : St → Hp → Prop), Inv X pins σ H s → RelV v u → t v σ H Q →
  wpAny (model X.prog X.w) X.A (assign target X.env u) (fun _ s' => ∃ σ' H', Inv X pins σ' H' s' ∧ Q σ' H') X.xe s
def PGs (X : Cx) (ts : List Expr) (t : TGs) : Prop :=
 ∀ (pins : Pn) (s : Shared) (σ : St) (H : Hp) (vs : List V) (us : List Value) (Q : St → Hp → Prop), Inv X pins σ H s → Vals vs us → t vs σ H Q →
  wpAny (model X.prog X.w) X.A (assignInOrder ((assignEach ts X.env).map (·.2)) us) (fun _ s' => ∃ σ' H', Inv X pins σ' H' s' ∧ Q σ' H') X.xe s
abbrev TSet := V → V → V → Hp → (Hp → Prop) → Prop
def PSet (X : Cx) (t : TSet) : Prop :=
 ∀ (pins : Pn) (s : Shared) (σ : St) (H : Hp) (o i v : V) (ov iv u : Value) (Q : Hp → Prop), Inv X pins σ H s → RelV o ov → RelV i iv → RelV v u → t o i v H Q →
  wpAny (model X.prog X.w) X.A (setItem ov iv u) (fun _ s' => ∃ H', Inv X pins σ H' s' ∧ Q H') X.xe s
abbrev TIp := V → V → Hp → VK → Prop
def PIp (X : Cx) (op : Operator) (t : TIp) : Prop :=
 ∀ (pins : Pn) (s : Shared) (σ : St) (H : Hp) (x y : V) (v u : Value) (Q : VK), Inv X pins σ H s → RelV x v → RelV y u → t x y H Q →
  wpAny (model X.prog X.w) X.A (inplaceOp op v u) (EP X pins σ Q) X.xe s
section
variable {X : Cx} {pos : Pos}
def QlP (i : Nat) : TG := fun v σ H Q => Q (σ.set i (some v)) H
theorem QR {i : Nat} {x : Str} (hN : X.N.Nodup) (hi : X.N[i]? = some x) (hx : Loc X.env.scope x) (hf : X.fn x = true ∨ X.env.scope.names.lookup x = some .local := by first | exact .inl rfl | exact .inr rfl | assumption) : PG X (.Name x pos) (QlP i) := by
 intro pins s σ H v u Q I r h
 exact wpAny_assign_Name (Qbh I hN hi hx r (fun s' I' => ⟨_, H, I', h⟩) hf)
def gNil : TGs := fun vs σ H Q => vs = [] ∧ Q σ H
def gCons (t : TG) (u : TGs) : TGs := fun vs σ H Q => ∃ v r, vs = v :: r ∧ t v σ H fun σ' H' => u r σ' H' Q
theorem QmQ : PGs X [] gNil := by
 intro pins s σ H vs us Q I r h
 obtain ⟨e, h⟩ := h
 subst e
 cases r
 exact assignInOrder_nil ⟨σ, H, I, h⟩
theorem QiS {e : Expr} {es : List Expr} {t : TG} {u : TGs} (h1 : PG X e t) (h2 : PGs X es u)
  (hs : (assignEach (e :: es) X.env).map (·.2) = assign e X.env :: (assignEach es X.env).map (·.2) := by rfl) : PGs X (e :: es) (gCons t u) := by
 intro pins s σ H vs us Q I r h
 obtain ⟨v, vr, e1, h⟩ := h
 subst e1
 cases r with
 | cons r rr =>
  rw [hs]
  refine assignInOrder_cons (thn (h1 pins s σ H _ _ _ I r h) fun _ s1 ⟨σ1, H1, I1, q1⟩ => ?_)
  exact h2 pins s1 σ1 H1 _ _ Q I1 rr q1
def gTup (K : Fg) (n : Nat) (t : TGs) : TG := fun v σ H Q => ∃ a xs, v = .ref a ∧ SqT K H a xs ∧ xs.length = n ∧ t xs σ H Q
theorem pg_tup {es : List Expr} {k : Nat} {t : TGs} {n : Nat} (hc : X.calm = true) (h : PGs X es t)
  (hn : (assignEach es X.env).length = n := by rfl) (hst : (assignEach es X.env).findIdx? (·.1) = none := by rfl) : PG X (.Tuple es k pos) (gTup X.K n t) := by
 intro pins s σ H v u Q I r hw
 obtain ⟨a, xs, e1, hq, hl, hw⟩ := hw
 subst e1
 cases r
 obtain ⟨its, rv, ht, hz⟩ := I.tuple hq
 refine assign_Tuple_tuple (I.ok.hd hc) ht (by simp [hn, ← hl, rv.length]) hst fun h' hx => ?_
 have I1 : Inv X pins σ H { s with heap := h' } := I.kept (t' := s.toks) fun b o e => hx b o (Nat.ne_of_lt (Heap.lt_size e)) e
 exact h pins _ σ H xs _ Q I1 (by simpa using rv) hw
def gSub (to ti : TE) (t : TSet) : TG := fun v σ H Q => to σ H fun o H1 => ti σ H1 fun i H2 => t o i v H2 fun H3 => Q σ H3
theorem Qkr {o i : Expr} {to ti : TE} {t : TSet} (ho : PE X o to) (hi : PE X i ti) (hs : PSet X t)
  (ha : ∀ v, assign (.Subscript o i pos) X.env v = (do
   let ov ← holding [v] (eval o X.env)
   let iv ← holding [v, ov] (eval i X.env)
   standAt pos
   holding [v, ov, iv] (setItem ov iv v)
   release [v, ov, iv] []) := by intro _; rfl) : PG X (.Subscript o i pos) (gSub to ti t) := by
 intro pins s σ H v u Q I r h
 rw [ha]
 refine wpAny_bind (wpAny_holding (thn (ho pins s σ H _ I h) fun ov s1 ⟨x, H1, I1, r1, q1⟩ => ?_))
 refine wpAny_bind (wpAny_holding (thn (hi pins s1 σ H1 _ I1 q1) fun iv s2 ⟨y, H2, I2, r2, q2⟩ => ?_))
 refine wpAny_bind (wpAny_standAt (wpAny_bind (wpAny_holding (thn (hs pins s2 σ H2 x y v ov iv u _ I2 r1 r2 r q2) fun _ s3 ⟨H3, I3, q3⟩ => ?_))))
 exact wpAny_release ⟨σ, H3, I3, q3⟩
def tAsg (te : TE) (g : TG) : TS := fun D σ H => te σ H fun x H1 => g x σ H1 D.nx
theorem Qkm {tg e : Expr} {te : TE} {g : TG} (he : PE X e te) (hg : PG X tg g) (hs : swapsWithSole [tg] e pos.line X.env = pure false := by rfl) (hw : swappedStores [tg] e X.env = pure none := by rfl)
  (h1 : (assignEach [tg] X.env).map (·.2) = [assign tg X.env] := by rfl) : PS X (.Assign [tg] e pos) (tAsg te g) := by
 intro pins s σ H D I h
 refine wpAny_Assign_stores (thn (he pins s σ H _ I h) fun v s1 ⟨x, H1, I1, r1, q1⟩ => ?_) hs hw
 rw [h1]
 exact thn (hg pins s1 σ H1 x v _ I1 r1 q1) fun _ s2 q => q
theorem Qw {i : Nat} {x : Str} {e : Expr} {te : TE} {pos' : Pos} (hN : X.N.Nodup) (hi : X.N[i]? = some x) (hx : Loc X.env.scope x) (he : PE X e te) (hs : swapsWith e (some (.Name x pos')) pos.line X.env = pure false := by rfl) (hf : X.fn x = true ∨ X.env.scope.names.lookup x = some .local := by first | exact .inl rfl | exact .inr rfl | assumption) :
  PS X (.Assign [.Name x pos'] e pos) (tAsg te (QlP i)) := by
 intro pins s σ H D I h
 refine wpAny_Assign_Name (thn (he pins s σ H _ I h) fun v s1 ⟨y, H1, I1, r1, q1⟩ => ?_) hs
 exact Qbh I1 hN hi hx r1 (fun s2 I2 => ⟨_, H1, I2, q1⟩) hf
def tAug (i : Nat) (te : TE) (ti : TIp) : TS := fun D σ H => ∃ x, σ[i]? = some (some x) ∧ te σ H fun y H1 => ti x y H1 fun z H2 => D.nx (σ.set i (some z)) H2
theorem Qme {i : Nat} {x : Str} {e : Expr} {te : TE} {op : Operator} {ti : TIp} {pos' : Pos} (hN : X.N.Nodup) (hi : X.N[i]? = some x) (hx : Loc X.env.scope x) (he : PE X e te) (ho : PIp X op ti) (hf : X.fn x = true ∨ X.env.scope.names.lookup x = some .local := by first | exact .inl rfl | exact .inr rfl | assumption) :
  PS X (.AugAssign (.Name x pos') op e pos) (tAug i te ti) := by
 intro pins s σ H D I h
 obtain ⟨v, e1, h⟩ := h
 obtain ⟨m, hn, hl⟩ := I.loc
 have vis : Vis X.env.scope x := by rcases hx with k | k; exact .inl k; exact .inr (.inl k)
 obtain ⟨u, r, l⟩ := hl i x v hi e1 vis
 refine wpAny_AugAssign_Name ?_
 have go : wpAny (model X.prog X.w) X.A (eval e X.env) (fun w s₂ => wpAny (model X.prog X.w) X.A (inplaceOp op u w) (fun r s₃ => wpAny (model X.prog X.w) X.A (storeName X.env x r) (fun _ => SP X pins D .next) X.xe s₃) X.xe s₂) X.xe s := by
  refine thn (he pins s σ H _ I h) fun w s1 ⟨y, H1, I1, r1, q1⟩ => ?_
  refine thn (ho pins s1 σ H1 v y u w _ I1 r r1 q1) fun z s2 ⟨zv, H2, I2, r2, q2⟩ => ?_
  exact Qbh I2 hN hi hx r2 (fun s3 I3 => ⟨_, H2, I3, q2⟩) hf
 rcases l with ⟨hk, hm⟩ | ⟨hk, c, hc, hcell⟩
 ·exact wpAny_loadName_local I.ok.kind hk hn hm go
 ·rcases hk with hk | hk
  ·exact wpAny_loadName_cell I.ok.kind hk hc hcell go
  ·rcases hx with k | k
   ·have : X.env.scope.names.lookup x = some .free := hk
    rw [k] at this; cases this
   ·have : X.env.scope.names.lookup x = some .free := hk
    rw [k] at this; cases this
def ipI (f : Int → Int → Int) : TIp := fun x y H Q => ∃ i j, x = .int i ∧ y = .int j ∧ Q (.int (f i j)) H
theorem Qmp : PIp X .Add (ipI fun i j => i + j) := by
 intro pins s σ H x y v u Q I r1 r2 h
 obtain ⟨i, j, e1, e2, q⟩ := h
 subst e1; subst e2
 obtain ⟨t, rfl⟩ := r1
 obtain ⟨t', rfl⟩ := r2
 exact iadd_int ⟨.int _, H, I.tok _, ⟨_, rfl⟩, q⟩
end
section
variable {X : Cx} {pos : Pos}
def Ql1 (c : TT) (tb : TS) : TS := fun D σ H => ∃ W : Nat → St → Hp → Prop, (∃ m, W m σ H) ∧ ∀ m σ H, W m σ H →
 c σ H fun b H1 => if b = true then ∃ N : St → Hp → Prop, (∀ σ' H', N σ' H' → ∃ m', m' < m ∧ W m' σ' H') ∧ tb { D with nx := N, ct := N, bk := D.nx } σ H1 else D.nx σ H1
theorem QiP {c : Expr} {body : List Stmt} {tc : TT} {tb : TS} (hp : PassesOwn (model X.prog X.w) X.A X.env X.xe) (hc : PT X c tc) (hb : PSs X body tb) : PS X (.While c body [] pos) (Ql1 tc tb) := by
 intro pins s σ H D I h
 obtain ⟨W, ⟨m0, w0⟩, turn⟩ := h
 refine wpAny_While (codeAny_whileLoop (fun n s' => ∃ σ' H', Inv X pins σ' H' s' ∧ W n σ' H') ?_ m0 ⟨σ, H, I, w0⟩)
 rintro n s1 ⟨σ1, H1, I1, w1⟩
 refine wpAny_passesOwn hp (thn (hc pins s1 σ1 H1 _ I1 (turn n σ1 H1 w1)) fun b s2 ⟨H2, I2, q2⟩ => ?_)
 cases b with
 | true =>
  obtain ⟨N, hN, q2⟩ := q2
  rw [if_pos rfl]
  refine wpAny_passesOwn hp (thn (hb pins s2 σ1 H2 _ I2 q2) fun f s3 q3 => ?_)
  cases f with
  | next =>
   obtain ⟨σ3, H3, I3, n3⟩ := q3
   obtain ⟨m', hm, w3⟩ := hN σ3 H3 n3
   exact ⟨m', hm, σ3, H3, I3, w3⟩
  | cont =>
   obtain ⟨σ3, H3, I3, n3⟩ := q3
   obtain ⟨m', hm, w3⟩ := hN σ3 H3 n3
   exact ⟨m', hm, σ3, H3, I3, w3⟩
  | brk => exact q3
  | ret v => exact q3
 | false =>
  rw [if_neg Bool.false_ne_true]
  exact wpAny_execs_nil ⟨σ1, H2, I2, q2⟩
end
structure It where
 go : Nat → Hp → Prop
 yld : Nat → Hp → V → Hp → Prop
 stop : Nat → Hp → Prop
def Qhe (X : Cx) (pins : Pn) (H : Hp) (b : Addr) : Prop :=
 H b = none ∧ b ≠ X.env.locals ∧ b ∉ X.fs ∧ (b ∈ X.ex ∨ X.s₀.heap.objs.size ≤ b) ∧ (∀ x c, X.env.cells.lookup x = some c → c ≠ b) ∧ ∀ p ∈ X.pn ++ pins, p.1 ≠ b
theorem Inv.fpOk {X : Cx} {pins : Pn} {σ : St} {H H' : Hp} {s : Shared} {b : Addr} (I : Inv X pins σ H s) (hb : s.heap.objs.size ≤ b) (hn : H' b = none) : Qhe X pins H' b := by
 refine ⟨hn, Nat.ne_of_gt (Nat.lt_of_lt_of_le I.lt hb), I.nofs hb, .inr (Nat.le_trans I.sz hb), fun x c e z => ?_, fun p hp z => ?_⟩
 ·obtain ⟨v, q⟩ := I.cell x c e
  exact absurd (Nat.lt_of_lt_of_le q.lt (by rw [z]; exact hb)) (Nat.lt_irrefl _)
 ·exact absurd (Nat.lt_of_lt_of_le (Heap.lt_size (I.pin p hp).1) (by rw [z]; exact hb)) (Nat.lt_irrefl _)
structure Qm9 (P : Program) (w : World) (K : Fg) (tg : Expr) (J : It) (fp : List Addr) (it : Addr) (tn : Nat → Heap → Prop) : Prop where
 mem : it ∈ fp
 obj : ∀ i h, tn i h → ∀ b ∈ fp, ∃ o, h.get? b = some o ∧ ∀ v, o.data ≠ .cell v
 keep : ∀ i h h', tn i h → (∀ b ∈ fp, ∀ o, h.get? b = some o → h'.get? b = some o) → tn i h'
 item : ∀ (X : Cx), X.prog = P → X.w = w → X.K = K → X.calm = true → ∀ (i : Nat) (pins : Pn) (s : Shared) (σ : St) (H : Hp) (E : Value → Shared → Prop), Inv X pins σ H s → (∀ b ∈ fp, Qhe X pins H b) → tn i s.heap → J.go i H →
  wpAny (model P w) X.A (pyNext (.ref it)) (fun r s1 => ∃ u, r = some u ∧
   wpAny (model P w) X.A (letOwnedTupleGo tg (.ref it) u) (fun _ s2 => ∃ x H', Inv X pins σ H' s2 ∧ RelV x u ∧ J.yld i H x H' ∧ tn (i + 1) s2.heap ∧ ∀ b ∈ fp, H' b = none) E s1) E s
 done : ∀ (X : Cx), X.prog = P → X.w = w → X.K = K → X.calm = true → ∀ (i : Nat) (pins : Pn) (s : Shared) (σ : St) (H : Hp) (E : Value → Shared → Prop), Inv X pins σ H s → (∀ b ∈ fp, Qhe X pins H b) → tn i s.heap → J.stop i H →
  wpAny (model P w) X.A (pyNext (.ref it)) (fun r s1 => r = none ∧ Inv X pins σ H s1) E s
 self : ∀ (A : Around) (i : Nat) (s : Shared) (Q : Value → Shared → Prop) (E : Value → Shared → Prop), tn i s.heap → Q (.ref it) s → wpAny (model P w) A (pyIter (.ref it)) Q E s
abbrev TI := St → Hp → (It → Hp → Prop) → Prop
def PIE (X : Cx) (pins : Pn) (σ : St) (tg : Expr) (R : It → Hp → Prop) (itv : Value) (s2 : Shared) : Prop :=
 ∃ (it : Addr) (fp : List Addr) (tn : Nat → Heap → Prop) (J : It) (H' : Hp), itv = .ref it ∧ Inv X pins σ H' s2 ∧ Qm9 X.prog X.w X.K tg J fp it tn ∧ tn 0 s2.heap ∧ (∀ b ∈ fp, Qhe X pins H' b) ∧ R J H'
def PI (X : Cx) (tg iter : Expr) (wi : TI) : Prop :=
 ∀ (pins : Pn) (s : Shared) (σ : St) (H : Hp) (R : It → Hp → Prop), Inv X pins σ H s → wi σ H R →
  wpAny (model X.prog X.w) X.A (eval iter X.env) (fun v s1 => wpAny (model X.prog X.w) X.A (pyIter v) (PIE X pins σ tg R) X.xe s1) X.xe s
theorem go_of {M : Model} {A : Around} {E : Value → Shared → Prop} {s : Shared} {tg : Expr} {it : Addr} {u : Value} {o : Obj} {n : String} {vs : Array Value} {Q : Unit → Shared → Prop} (ho : s.heap.get? it = some o) (hc : o.cls = .type n) (hd : o.data = .fields vs)
    (hn : ["enumerate", "zip", "dict_itemiterator", "dict_reverseitemiterator", "odict_iterator", "itertools.zip_longest", "itertools.pairwise"].contains n = false) (hQ : Q () s) : wpAny M A (letOwnedTupleGo tg (.ref it) u) Q E s := by
  unfold letOwnedTupleGo
  cases tg <;> first
    | exact wpAny_pure hQ
    | (cases u <;> first
        | exact wpAny_pure hQ
        | (refine wpAny_bind (wpAny_load ho ?_)
           rw [hc, hd]
           show wpAny M A (if (["enumerate", "zip", "dict_itemiterator", "dict_reverseitemiterator", "odict_iterator", "itertools.zip_longest", "itertools.pairwise"].contains n && vs[0]? == some (rawInt _)) = true then _ else _) Q E s
           rw [if_neg (by intro h; rw [hn, Bool.false_and] at h; cases h)]
           exact wpAny_pure hQ))
def Itl (K : Fg) (a : Addr) : It :=
 ⟨fun i H => ∃ xs x, SqL K H a xs ∧ xs[i]? = some x, fun i H x H' => H' = H ∧ ∀ xs, SqL K H a xs → xs[i]? = some x, fun i H => ∃ xs, SqL K H a xs ∧ xs.length ≤ i⟩
def Itr (lo : Int) (n : Nat) : It := ⟨fun i _ => i < n, fun i H x H' => H' = H ∧ x = .int (lo + i), fun i _ => n ≤ i⟩
theorem QjQ {P : Program} {w : World} {K : Fg} {tg : Expr} (a it : Addr) : Qm9 P w K tg (Itl K a) [it] it (fun i h => h.IsListIter it a i) where
 mem := by simp
 obj := fun i h st b hb => by
  have e : b = it := by simpa using hb
  subst e
  obtain ⟨o, e, c, d⟩ := st
  exact ⟨o, e, fun v z => by rw [d] at z; cases z⟩
 keep := fun i h h' st k => st.at fun o e => k it (by simp) o e
 item := by
  intro X hP hw hK hc i pins s σ H E I hf st hg
  subst hP hw hK
  obtain ⟨xs, x, hq, hx⟩ := hg
  obtain ⟨its, rv, p, hz⟩ := I.list hq
  obtain ⟨u, hu, ru⟩ := rv.get hx
  obtain ⟨f0, f1, f2, f3, f4, f5⟩ := hf it (by simp)
  refine wpAny_pyNext_list_item st p.isList (x := u) (by simpa using hu) fun h' st' sb => ?_
  have I1 : Inv X pins σ H { s with heap := h' } := I.turned (t' := s.toks) (fun b o hb e => (sb.2 b hb).trans e) f0 f1 f3 f4 f5
  obtain ⟨o, e, c, d⟩ := id st'
  exact ⟨u, rfl, go_of (s := { s with heap := h' }) e c d (by decide) ⟨x, H, I1, ru, ⟨rfl, fun ys hy => by rw [I.list_inj hy hq]; exact hx⟩, st', fun b hb => (hf b hb).1⟩⟩
 done := by
  intro X hP hw hK hc i pins s σ H E I hf st hg
  subst hP hw hK
  obtain ⟨xs, hq, hx⟩ := hg
  obtain ⟨its, rv, p, hz⟩ := I.list hq
  obtain ⟨f0, f1, f2, f3, f4, f5⟩ := hf it (by simp)
  have hl := rv.length
  exact wpAny_pyNext_list_end (I.ok.hd hc) st p.isList (by simp; omega) fun h' eb => ⟨rfl, I.turned (t' := s.toks) (fun b o hb e => eb b o hb e) f0 f1 f3 f4 f5⟩
 self := fun _ _ _ _ _ st h => wpAny_pyIter_listiter st h
theorem Qje {P : Program} {w : World} {K : Fg} {tg : Expr} (it : Addr) (lo : Int) (n : Nat) : Qm9 P w K tg (Itr lo n) [it] it (fun i h => IsRangeIter h it (lo + (i : Nat) * 1) ((n : Int) - (i : Nat)) 1) where
 mem := by simp
 obj := fun i h st b hb => by
  have e : b = it := by simpa using hb
  subst e
  exact ⟨_, st, fun v z => by
   have z' : Data.fields _ = Data.cell v := z
   cases z'⟩
 keep := fun i h h' st k => k it (by simp) _ st
 item := by
  intro X hP hw hK hc i pins s σ H E I hf st hg
  subst hP hw hK
  obtain ⟨f0, f1, f2, f3, f4, f5⟩ := hf it (by simp)
  have W := Walks.range (prog := X.prog) (w := X.w) (I.ok.hd hc) it lo 1 n
  refine W.item i s _ _ hg st fun v h' tk hv st' kk => ?_
  obtain ⟨t, rfl⟩ := hv
  have I1 : Inv X pins σ H { s with heap := h', toks := tk } := I.turned (fun b o hb e => kk b o (by simpa using hb) e) f0 f1 f3 f4 f5
  refine ⟨_, rfl, go_of (s := { s with heap := h', toks := tk }) (n := "range_iterator") st' rfl rfl (by decide) ⟨.int (lo + i), H, I1, ⟨t, ?_⟩, ⟨rfl, rfl⟩, st', fun b hb => (hf b hb).1⟩⟩
  rw [Int.mul_one]
 done := by
  intro X hP hw hK hc i pins s σ H E I hf st hg
  subst hP hw hK
  obtain ⟨f0, f1, f2, f3, f4, f5⟩ := hf it (by simp)
  exact wpAny_pyNext_range_end (I.ok.hd hc) st (by have : n ≤ i := hg; omega) fun h' eb => ⟨rfl, I.turned (t' := s.toks) (fun b o hb e => eb b o hb e) f0 f1 f3 f4 f5⟩
 self := fun _ _ _ _ _ st h => wpAny_pyIter_rangeiter st h
end L2
namespace L2
open PySem PySem.Spec PyProof.Rows
section
variable {X : Cx} {tg : Expr}
def iList (K : Fg) (tl : TE) : TI := fun σ H R => tl σ H fun x H1 => ∃ a, x = .ref a ∧ (∃ xs, SqL K H1 a xs) ∧ R (Itl K a) H1
theorem QQ {l : Expr} {tl : TE} (hl : PE X l tl) : PI X tg l (iList X.K tl) := by
 intro pins s σ H R I h
 refine thn (hl pins s σ H _ I h) fun v s1 ⟨x, H1, I1, r1, q1⟩ => ?_
 obtain ⟨a, e, ⟨xs, hq⟩, q⟩ := q1
 subst e
 cases r1
 obtain ⟨its, rv, p, hz⟩ := I1.list hq
 refine wpAny_pyIter_list p.isList ?_
 refine ⟨s1.heap.objs.size, [s1.heap.objs.size], _, _, H1, rfl, I1.kept (t' := s1.toks) fun b o e => Heap.get?_push_of_some _ e, QjQ a _, ⟨_, Heap.get?_push_size _ rfl, rfl, rfl⟩, fun b hb => ?_, q⟩
 have e : b = s1.heap.objs.size := by simpa using hb
 subst e
 exact I1.fpOk (Nat.le_refl _) (I1.hok.fresh (Nat.le_refl _))
theorem QiO {pins : Pn} {σ : St} {H : Hp} {s : Shared} {R : It → Hp → Prop} {E : Value → Shared → Prop} {lo hi : Int} {t u v : Tok} {tk : Nat} (I : Inv X pins σ H s) (h1 : -(2 ^ 62) ≤ lo) (h2 : lo < 2 ^ 62) (h3 : -(2 ^ 62) ≤ hi) (h4 : hi < 2 ^ 62)
  (q : R (Itr lo (hi - lo).toNat) H) : wpAny (model X.prog X.w) X.A (pyIter (.ref s.heap.objs.size)) (PIE X pins σ tg R) E { s with heap := s.heap.push { cls := .type "range", data := .fields #[.int lo t, .int hi u, .int 1 v] }, toks := tk } := by
 refine wpAny_pyIter_range (IsRange.new ..) (small_one h1 h2 h3 h4) ?_
 have I1 : Inv X pins σ H { s with heap := s.heap.push { cls := .type "range", data := .fields #[.int lo t, .int hi u, .int 1 v] }, toks := tk } := I.kept fun b o e => Heap.get?_push_of_some _ e
 refine ⟨(s.heap.push { cls := .type "range", data := .fields #[.int lo t, .int hi u, .int 1 v] }).objs.size, [(s.heap.push { cls := .type "range", data := .fields #[.int lo t, .int hi u, .int 1 v] }).objs.size], _, _, H, rfl,
  I1.kept (t' := tk) fun b o e => Heap.get?_push_of_some _ e, Qje _ lo (hi - lo).toNat, ?_, fun b hb => ?_, q⟩
 ·have e1 : lo + ((0 : Nat) : Int) * 1 = lo := by simp
  have e2 : (((hi - lo).toNat : Nat) : Int) - ((0 : Nat) : Int) = Builtin.Range.rangeSize lo hi 1 := by rw [rangeSize_one]; split <;> omega
  show IsRangeIter _ _ (lo + ((0 : Nat) : Int) * 1) ((((hi - lo).toNat : Nat) : Int) - ((0 : Nat) : Int)) 1
  rw [e1, e2]
  exact Heap.get?_push_size _ rfl
 ·have e : b = (s.heap.push { cls := .type "range", data := .fields #[.int lo t, .int hi u, .int 1 v] }).objs.size := by simpa using hb
  subst e
  exact I1.fpOk (Nat.le_refl _) (I1.hok.fresh (Nat.le_refl _))
def iRng1 (ta : TA) : TI := fun σ H R => ta σ H fun vs H1 => ∃ j : Int, vs = [.int j] ∧ -(2 ^ 62) ≤ j ∧ j < 2 ^ 62 ∧ R (Itr 0 j.toNat) H1
def iRng2 (ta : TA) : TI := fun σ H R => ta σ H fun vs H1 => ∃ i j : Int, vs = [.int i, .int j] ∧ (-(2 ^ 62) ≤ i ∧ i < 2 ^ 62 ∧ -(2 ^ 62) ≤ j ∧ j < 2 ^ 62) ∧ R (Itr i (j - i).toNat) H1
theorem QL {a : Expr} {ta : TA} {p pos : Pos} (hg : Gl X "range") (hm : X.mg "range" = none) (ha : PA X [a] ta) (hs : starEach [a] X.env = [(false, eval a X.env)] := by rfl) : PI X tg (.Call (.Name "range" p) [a] [] pos) (iRng1 ta) := by
 intro pins s σ H R I h
 refine Call_ (QfJ I hg hm boot_range (PyProof.Rows.callWith_type1 (thn (ha pos pins s σ H _ I h) fun us s1 ⟨vs, H1, I1, r1, q1⟩ => ?_) hs rfl))
 obtain ⟨j, e, q1, q2, q⟩ := q1
 subst e
 cases r1 with
 | cons r rr =>
  cases rr
  obtain ⟨t, rfl⟩ := r
  exact call_range_1 (QiO I1 (by omega) (by omega) q1 q2 (by simpa using q))
theorem Qkq {a b : Expr} {ta : TA} {p pos : Pos} (hg : Gl X "range") (hm : X.mg "range" = none) (ha : PA X [a, b] ta) (hs : starEach [a, b] X.env = [(false, eval a X.env), (false, eval b X.env)] := by rfl) (hs2 : starEach [b] X.env = [(false, eval b X.env)] := by rfl) :
  PI X tg (.Call (.Name "range" p) [a, b] [] pos) (iRng2 ta) := by
 intro pins s σ H R I h
 refine Call_ (QfJ I hg hm boot_range (PyProof.Rows.callWith_type1 (thn (ha pos pins s σ H _ I h) fun us s1 ⟨vs, H1, I1, r1, q1⟩ => ?_) (by rw [hs, hs2]) (by rw [hs2]; rfl)))
 obtain ⟨i, j, e, ⟨q1, q2, q3, q4⟩, q⟩ := q1
 subst e
 cases r1 with
 | cons r rr =>
  cases rr with
  | cons r' rr =>
   cases rr
   obtain ⟨t, rfl⟩ := r
   obtain ⟨t', rfl⟩ := r'
   exact call_range_2 (QiO I1 q1 q2 q3 q4 q)
def tFor (wi : TI) (g : TG) (tb : TS) : TS := fun D σ H => wi σ H fun J H1 => ∃ W : Nat → Nat → St → Hp → Prop, (∃ m, W 0 m σ H1) ∧ ∀ i m σ H, W i m σ H →
 (J.stop i H ∧ D.nx σ H) ∨ (J.go i H ∧ ∃ N : St → Hp → Prop, (∀ σ' H', N σ' H' → ∃ m', m' < m ∧ W (i + 1) m' σ' H') ∧ ∀ x H', J.yld i H x H' → g x σ H' fun σ2 H2 => tb { D with nx := N, ct := N, bk := D.nx } σ2 H2)
def Qfn (fp : List Addr) (h : Heap) : Pn := fp.filterMap fun b => (h.get? b).map fun o => (b, o)
theorem Qa0 {fp : List Addr} {h : Heap} {b : Addr} {o : Obj} (hb : b ∈ fp) (e : h.get? b = some o) : (b, o) ∈ Qfn fp h := List.mem_filterMap.mpr ⟨b, hb, by rw [e]; rfl⟩
theorem QkA {fp : List Addr} {h : Heap} {p : Addr × Obj} (hp : p ∈ Qfn fp h) : p.1 ∈ fp ∧ h.get? p.1 = some p.2 := by
 obtain ⟨b, hb, e⟩ := List.mem_filterMap.mp hp
 cases q : h.get? b with
 | none => rw [q] at e; cases e
 | some o =>
  rw [q] at e
  have e' : (b, o) = p := Option.some.inj e
  subst e'
  exact ⟨hb, q⟩
theorem Inv.pinned {pins : Pn} {σ : St} {H : Hp} {s : Shared} {fp : List Addr} (I : Inv X pins σ H s) (hf : ∀ b ∈ fp, Qhe X pins H b) (ho : ∀ b ∈ fp, ∃ o, s.heap.get? b = some o ∧ ∀ v, o.data ≠ .cell v) : Inv X (pins ++ Qfn fp s.heap) σ H s :=
 I.pins_of fun p hp => (List.mem_append.mp hp).elim (fun z => I.pin p (List.mem_append_right _ z)) fun z => by
  obtain ⟨hb, e⟩ := QkA z
  obtain ⟨f0, f1, f2, _⟩ := hf p.1 hb
  obtain ⟨o, e', d⟩ := ho p.1 hb
  rw [e] at e'; cases e'
  exact ⟨e, f0, f1, f2, d⟩
theorem Inv.unpinned {pins pl : Pn} {σ : St} {H : Hp} {s : Shared} (I : Inv X (pins ++ pl) σ H s) : Inv X pins σ H s := I.pins_of fun p hp => I.pin p (List.mem_append_right _ (List.mem_append_left _ hp))
theorem Q7 {iter : Expr} {body : List Stmt} {wi : TI} {g : TG} {tb : TS} {pos : Pos} (hp : PassesOwn (model X.prog X.w) X.A X.env X.xe) (hc : X.calm = true) (hi : PI X tg iter wi) (hg : PG X tg g) (hb : PSs X body tb)
  (hs : ∀ x, foldedSetIterable iter X.env x = pure x := by intro _; rfl) : PS X (.For tg iter body [] pos) (tFor wi g tb) := by
 intro pins s σ H D I h
 refine wpAny_For (thn (hi pins s σ H _ I h) fun v s1 h1 => thn h1 fun itv s2 h2 => ?_) hs
 obtain ⟨it, fp, tn, J, H2, e, I2, T, st2, f2, W, ⟨m0, w0⟩, turn⟩ := h2
 subst e
 have stat : ∀ {H' : Hp}, (∀ b ∈ fp, H' b = none) → ∀ b ∈ fp, Qhe X pins H' b := fun hn b hb => ⟨hn b hb, (f2 b hb).2⟩
 refine codeAny_forLoop_any (fun n s' => ∃ i σ' H', Inv X pins σ' H' s' ∧ tn i s'.heap ∧ (∀ b ∈ fp, H' b = none) ∧ W i n σ' H') ?_ m0 ⟨0, σ, H2, I2, st2, fun b hb => (f2 b hb).1, w0⟩
 rintro n s3 ⟨i, σ3, H3, I3, st3, fr3, w3⟩
 rcases turn i n σ3 H3 w3 with ⟨stop, qn⟩ | ⟨go, N, hN, step⟩
 ·refine wpAny_passesOwn hp (thn (T.done X rfl rfl rfl hc i pins s3 σ3 H3 X.xe I3 (stat fr3) st3 stop) fun r s4 ⟨hr, I4⟩ => ?_)
  subst hr
  exact wpAny_execs_nil ⟨σ3, H3, I4, qn⟩
 ·refine wpAny_passesOwn hp (thn (T.item X rfl rfl rfl hc i pins s3 σ3 H3 X.xe I3 (stat fr3) st3 go) fun r s4 ⟨u, hr, h4⟩ => ?_)
  subst hr
  refine wpAny_passesOwn hp (thn h4 fun _ s5 ⟨x, H5, I5, r5, y5, st5, fr5⟩ => ?_)
  have I5' := I5.pinned (stat fr5) (T.obj _ _ st5)
  refine wpAny_passesOwn hp (thn (hg _ s5 σ3 H5 x u _ I5' r5 (step x H5 y5)) fun _ s6 ⟨σ6, H6, I6, q6⟩ => ?_)
  refine wpAny_passesOwn hp (thn (hb _ s6 σ6 H6 _ I6 q6) fun f s7 q7 => ?_)
  have again : ∀ {σ7 : St} {H7 : Hp}, Inv X (pins ++ Qfn fp s5.heap) σ7 H7 s7 → N σ7 H7 → ∃ m, m < n ∧ ∃ i σ' H', Inv X pins σ' H' s7 ∧ tn i s7.heap ∧ (∀ b ∈ fp, H' b = none) ∧ W i m σ' H' := fun {σ7 H7} I7 n7 => by
   obtain ⟨m', hm, w7⟩ := hN σ7 H7 n7
   refine ⟨m', hm, i + 1, σ7, H7, I7.unpinned, T.keep _ _ _ st5 fun b hb o e => (I7.pin (b, o) (List.mem_append_right _ (List.mem_append_right _ (Qa0 hb e)))).1, fun b hb => ?_, w7⟩
   obtain ⟨o, e, d⟩ := T.obj _ _ st5 b hb
   exact (I7.pin (b, o) (List.mem_append_right _ (List.mem_append_right _ (Qa0 hb e)))).2.1
  cases f with
  | next => obtain ⟨σ7, H7, I7, n7⟩ := q7; exact again I7 n7
  | cont => obtain ⟨σ7, H7, I7, n7⟩ := q7; exact again I7 n7
  | brk => obtain ⟨σ7, H7, I7, q7⟩ := q7; exact ⟨σ7, H7, I7.unpinned, q7⟩
  | ret v => obtain ⟨x7, σ7, H7, I7, r7, q7⟩ := q7; exact ⟨x7, σ7, H7, I7.unpinned, r7, q7⟩
end
theorem ZS {K : Fg} {a : Addr} {xs : List V} {g : TG} {tb : TS} {D : QjL} {σ : St} {H : Hp} (Pv : Nat → St → Hp → Prop) (h0 : Pv 0 σ H) (hl : ∀ i σ H, i ≤ xs.length → Pv i σ H → SqL K H a xs)
  (hs : ∀ i x σ H, xs[i]? = some x → Pv i σ H → g x σ H fun σ2 H2 => tb { D with nx := Pv (i + 1), ct := Pv (i + 1), bk := D.nx } σ2 H2) (hd : ∀ σ H, Pv xs.length σ H → D.nx σ H) :
  ∃ W : Nat → Nat → St → Hp → Prop, (∃ m, W 0 m σ H) ∧ ∀ i m σ H, W i m σ H →
   ((Itl K a).stop i H ∧ D.nx σ H) ∨ ((Itl K a).go i H ∧ ∃ N : St → Hp → Prop, (∀ σ' H', N σ' H' → ∃ m', m' < m ∧ W (i + 1) m' σ' H') ∧ ∀ x H', (Itl K a).yld i H x H' → g x σ H' fun σ2 H2 => tb { D with nx := N, ct := N, bk := D.nx } σ2 H2) := by
 refine ⟨fun i m σ H => m = xs.length - i ∧ i ≤ xs.length ∧ Pv i σ H, ⟨xs.length, by simp, Nat.zero_le _, h0⟩, ?_⟩
 rintro i m σ H ⟨rfl, hi, p⟩
 have q := hl i σ H hi p
 by_cases hlt : i < xs.length
 ·refine .inr ⟨⟨xs, xs[i], q, by simp [hlt]⟩, Pv (i + 1), fun σ' H' p' => ⟨xs.length - (i + 1), by omega, rfl, hlt, p'⟩, fun x H' y => ?_⟩
  obtain ⟨e, y⟩ := y
  subst e
  exact hs i x σ _ (y xs q) p
 ·have e : i = xs.length := by omega
  subst e
  exact .inl ⟨⟨xs, q, Nat.le_refl _⟩, hd σ H p⟩
theorem ZP {lo : Int} {n : Nat} {g : TG} {tb : TS} {D : QjL} {σ : St} {H : Hp} (Pv : Nat → St → Hp → Prop) (h0 : Pv 0 σ H)
  (hs : ∀ i σ H, i < n → Pv i σ H → g (.int (lo + i)) σ H fun σ2 H2 => tb { D with nx := Pv (i + 1), ct := Pv (i + 1), bk := D.nx } σ2 H2) (hd : ∀ σ H, Pv n σ H → D.nx σ H) :
  ∃ W : Nat → Nat → St → Hp → Prop, (∃ m, W 0 m σ H) ∧ ∀ i m σ H, W i m σ H →
   ((Itr lo n).stop i H ∧ D.nx σ H) ∨ ((Itr lo n).go i H ∧ ∃ N : St → Hp → Prop, (∀ σ' H', N σ' H' → ∃ m', m' < m ∧ W (i + 1) m' σ' H') ∧ ∀ x H', (Itr lo n).yld i H x H' → g x σ H' fun σ2 H2 => tb { D with nx := N, ct := N, bk := D.nx } σ2 H2) := by
 refine ⟨fun i m σ H => m = n - i ∧ i ≤ n ∧ Pv i σ H, ⟨n, by simp, Nat.zero_le _, h0⟩, ?_⟩
 rintro i m σ H ⟨rfl, hi, p⟩
 by_cases hlt : i < n
 ·refine .inr ⟨hlt, Pv (i + 1), fun σ' H' p' => ⟨n - (i + 1), by omega, rfl, hlt, p'⟩, fun x H' y => ?_⟩
  obtain ⟨e, y⟩ := y
  subst e y
  exact hs i σ _ hlt p
 ·have e : i = n := by omega
  subst e
  exact .inl ⟨Nat.le_refl _, hd σ H p⟩
theorem QiA {c : TT} {tb : TS} {D : QjL} {σ : St} {H : Hp} (Pv : St → Hp → Prop) (μ : St → Hp → Nat) (h0 : Pv σ H)
  (hs : ∀ σ H, Pv σ H → c σ H fun b H1 => if b = true then tb { D with nx := fun σ' H' => Pv σ' H' ∧ μ σ' H' < μ σ H, ct := fun σ' H' => Pv σ' H' ∧ μ σ' H' < μ σ H, bk := D.nx } σ H1 else D.nx σ H1)
  (mono : ∀ σ H Q Q', (∀ b H1, Q b H1 → Q' b H1) → c σ H Q → c σ H Q') : Ql1 c tb D σ H := by
 refine ⟨fun m σ H => m = μ σ H ∧ Pv σ H, ⟨_, rfl, h0⟩, ?_⟩
 rintro m σ H ⟨rfl, p⟩
 refine mono σ H _ _ (fun b H1 q => ?_) (hs σ H p)
 cases b with
 | true => exact ⟨_, fun σ' H' ⟨p', l⟩ => ⟨_, l, rfl, p'⟩, q⟩
 | false => exact q
end L2
namespace L2
open PySem PySem.Spec PyProof.Rows
abbrev R2 := V → V → Hp → VK → Prop
def OpR (X : Cx) (f : Value → Value → Sem Value) (r : R2) : Prop :=
 ∀ (pins : Pn) (s : Shared) (σ : St) (H : Hp) (x y : V) (v u : Value) (Q : VK), Inv X pins σ H s → RelV x v → RelV y u → r x y H Q →
  wpAny (model X.prog X.w) X.A (f v u) (EP X pins σ Q) X.xe s
def UnR (X : Cx) (f : Value → Sem Value) (r : V → Hp → VK → Prop) : Prop :=
 ∀ (pins : Pn) (s : Shared) (σ : St) (H : Hp) (x : V) (v : Value) (Q : VK), Inv X pins σ H s → RelV x v → r x H Q →
  wpAny (model X.prog X.w) X.A (f v) (EP X pins σ Q) X.xe s
def QfU (X : Cx) (f : Value) (r : List V → Hp → VK → Prop) : Prop :=
 ∀ (pins : Pn) (s : Shared) (σ : St) (H : Hp) (xs : List V) (us : List Value) (Q : VK), Inv X pins σ H s → Vals xs us → r xs H Q →
  wpAny (model X.prog X.w) X.A (call f us) (EP X pins σ Q) X.xe s
def tOp (r : R2) (ta tb : TE) : TE := fun σ H Q => ta σ H fun x H1 => tb σ H1 fun y H2 => r x y H2 Q
def tUn (r : V → Hp → VK → Prop) (ta : TE) : TE := fun σ H Q => ta σ H fun x H1 => r x H1 Q
def rI (C : Int → Int → Prop) (g : Int → Int → V) : R2 := fun x y H Q => ∃ i j, x = .int i ∧ y = .int j ∧ C i j ∧ Q (g i j) H
def rI0 (g : Int → Int → V) : R2 := fun x y H Q => ∃ i j, x = .int i ∧ y = .int j ∧ Q (g i j) H
def rU (g : Int → V) : V → Hp → VK → Prop := fun x H Q => ∃ i, x = .int i ∧ Q (g i) H
section
variable {X : Cx} {a b c : Expr} {ta tb tc : TE} {pos : Pos}
theorem binT (ha : PE X a ta) (hb : PE X b tb) {pins : Pn} {s : Shared} {σ : St} {H : Hp} {R : V → V → Hp → Prop} (I : Inv X pins σ H s)
  (h : ta σ H fun x H1 => tb σ H1 fun y H2 => R x y H2) {Q : Value → Shared → Prop} {f : Value → Value → Sem Value}
  (hf : ∀ v u s2 x y H2, Inv X pins σ H2 s2 → RelV x v → RelV y u → R x y H2 → wpAny (model X.prog X.w) X.A (f v u) Q X.xe s2) :
  wpAny (model X.prog X.w) X.A (eval a X.env) (fun v s₁ => wpAny (model X.prog X.w) X.A (eval b X.env) (fun u s₂ => wpAny (model X.prog X.w) X.A (f v u) Q X.xe s₂) X.xe s₁) X.xe s := by
 refine thn (ha pins s σ H _ I h) fun v s1 ⟨x, H1, I1, r1, q1⟩ => ?_
 refine thn (hb pins s1 σ H1 _ I1 q1) fun u s2 ⟨y, H2, I2, r2, q2⟩ => ?_
 exact hf v u s2 x y H2 I2 r1 r2 q2
theorem QE {op : Operator} {r : R2} (ho : OpR X (binaryOp op) r) (ha : PE X a ta) (hb : PE X b tb) : PE X (.BinOp a op b pos) (tOp r ta tb) := by
 intro pins s σ H Q I h
 exact wpAny_BinOp (binT ha hb I h fun v u s2 x y H2 I2 rx ry q => ho pins s2 σ H2 x y v u Q I2 rx ry q)
theorem pe_un {op : UnaryOp} {r : V → Hp → VK → Prop} (ho : UnR X (unaryOp op) r) (ha : PE X a ta) : PE X (.UnaryOp op a pos) (tUn r ta) := by
 intro pins s σ H Q I h
 exact UnaryOp_ (thn (ha pins s σ H _ I h) fun v s1 ⟨x, H1, I1, r1, q1⟩ => ho pins s1 σ H1 x v Q I1 r1 q1)
theorem opI {f : Value → Value → Sem Value} {C : Int → Int → Prop} {g : Int → Int → Int}
  (rule : ∀ (i j : Int) (t u : Tok) (s : Shared) (Q : Value → Shared → Prop) (E : Value → Shared → Prop), C i j → Q (.int (g i j) s.toks) { s with toks := s.toks + 1 } → wpAny (model X.prog X.w) X.A (f (.int i t) (.int j u)) Q E s) :
  OpR X f (rI C fun i j => .int (g i j)) := by
 intro pins s σ H x y v u Q I rx ry h
 obtain ⟨i, j, rfl, rfl, hc, q⟩ := h
 obtain ⟨t, rfl⟩ := rx
 obtain ⟨t', rfl⟩ := ry
 exact rule i j t t' s _ _ hc ⟨.int (g i j), H, I.tok _, ⟨_, rfl⟩, q⟩
theorem opI0 {f : Value → Value → Sem Value} {g : Int → Int → Int}
  (rule : ∀ (i j : Int) (t u : Tok) (s : Shared) (Q : Value → Shared → Prop) (E : Value → Shared → Prop), Q (.int (g i j) s.toks) { s with toks := s.toks + 1 } → wpAny (model X.prog X.w) X.A (f (.int i t) (.int j u)) Q E s) :
  OpR X f (rI0 fun i j => .int (g i j)) := by
 intro pins s σ H x y v u Q I rx ry h
 obtain ⟨i, j, rfl, rfl, q⟩ := h
 obtain ⟨t, rfl⟩ := rx
 obtain ⟨t', rfl⟩ := ry
 exact rule i j t t' s _ _ ⟨.int (g i j), H, I.tok _, ⟨_, rfl⟩, q⟩
theorem opB0 {f : Value → Value → Sem Value} {g : Int → Int → Bool}
  (rule : ∀ (i j : Int) (t u : Tok) (s : Shared) (Q : Value → Shared → Prop) (E : Value → Shared → Prop), Q (.bool (g i j)) s → wpAny (model X.prog X.w) X.A (f (.int i t) (.int j u)) Q E s) :
  OpR X f (rI0 fun i j => .bl (g i j)) := by
 intro pins s σ H x y v u Q I rx ry h
 obtain ⟨i, j, rfl, rfl, q⟩ := h
 obtain ⟨t, rfl⟩ := rx
 obtain ⟨t', rfl⟩ := ry
 exact rule i j t t' s _ _ ⟨.bl (g i j), H, I, rfl, q⟩
def CDiv (i j : Int) : Prop := 0 < j ∧ j < 1073741824
def CPow (i j : Int) : Prop := 0 ≤ j ∧ j ≤ 1000000 ∧ i.natAbs < 2 ^ 64
def CMul (i j : Int) : Prop := (-(2 ^ 64) < i ∧ i < 2 ^ 64) ∨ (-(2 ^ 64) < j ∧ j < 2 ^ 64)
theorem CMul.ok {i j : Int} (h : CMul i j) : IntMulOk i j := by
 rcases h with ⟨h1, h2⟩ | ⟨h1, h2⟩
 ·exact .of_left (intBits_le_64 h1 h2)
 ·exact .of_right (intBits_le_64 h1 h2)
theorem Qah : OpR X (binaryOp .Add) (rI0 fun i j => .int (i + j)) := opI0 fun _ _ _ _ _ _ _ q => add_int q
theorem Qmg : OpR X (binaryOp .Sub) (rI0 fun i j => .int (i - j)) := opI0 fun _ _ _ _ _ _ _ q => sub_int q
theorem QiX : OpR X (binaryOp .Mult) (rI CMul fun i j => .int (i * j)) := opI fun _ _ _ _ _ _ _ hc q => mul_int q hc.ok
theorem QcC : OpR X (binaryOp .FloorDiv) (rI CDiv fun i j => .int (i / j)) := opI fun i j _ _ _ _ _ hc q => by
 have h1 : (0 : Int) < j := hc.1
 have h2 : j < 1073741824 := hc.2
 exact floordiv_int (by omega) (by rw [Int.fdiv_eq_ediv_of_nonneg i (by omega)]; exact q) (.inl (PyProof.noPylong_small (by omega)))
theorem Zb : OpR X (binaryOp .Mod) (rI (fun _ j => 0 < j) fun i j => .int (i % j)) := opI fun i j _ _ _ _ _ hc q => by
 have h1 : (0 : Int) < j := hc
 exact mod_int' (by omega) (by rw [Int.fmod_eq_emod_of_nonneg i (by omega)]; exact q)
theorem Qmi : OpR X (binaryOp .Pow) (rI CPow fun i j => .int (i ^ j.toNat)) := opI fun _ _ _ _ _ _ _ hc q => pow_int_small hc.1 hc.2.1 hc.2.2 q
theorem unI {f : Value → Sem Value} {g : Int → Int}
  (rule : ∀ (i : Int) (t : Tok) (s : Shared) (Q : Value → Shared → Prop) (E : Value → Shared → Prop), Q (.int (g i) s.toks) { s with toks := s.toks + 1 } → wpAny (model X.prog X.w) X.A (f (.int i t)) Q E s) :
  UnR X f (rU fun i => .int (g i)) := by
 intro pins s σ H x v Q I rx h
 obtain ⟨i, rfl, q⟩ := h
 obtain ⟨t, rfl⟩ := rx
 exact rule i t s _ _ ⟨.int (g i), H, I.tok _, ⟨_, rfl⟩, q⟩
theorem un_neg : UnR X (unaryOp .USub) (rU fun i => .int (-i)) := unI fun _ _ _ _ _ q => neg_int q
end
def scal : V → V → Bool
 | .non, .non => true | .non, .int _ => true | .int _, .non => true | .non, .bl _ => true | .bl _, .non => true | .non, .str _ => true | .str _, .non => true
 | .int _, .int _ => true | .bl _, .bl _ => true | .str _, .str _ => true | .byt _, .byt _ => true
 | .int _, .str _ => true | .str _, .int _ => true | .bl _, .str _ => true | .str _, .bl _ => true
 | _, _ => false
def rEq : R2 := fun x y H Q => scal x y = true ∧ Q (.bl (decide (x = y))) H
def rNe : R2 := fun x y H Q => scal x y = true ∧ Q (.bl (!decide (x = y))) H
theorem Qk6 {i j : Int} : decide (V.int i = V.int j) = (i == j) := by
 rw [Bool.eq_iff_iff]
 simp
theorem Qmr {i j : Bool} : decide (V.bl i = V.bl j) = (i == j) := by
 rw [Bool.eq_iff_iff]
 simp
theorem Qk5 {i j : Str} : decide (V.str i = V.str j) = (i == j) := by
 rw [Bool.eq_iff_iff]
 simp
theorem Qk7 {i j : Array UInt8} : decide (V.byt i = V.byt j) = (i.toList == j.toList) := by
 rw [Bool.eq_iff_iff]
 cases i
 cases j
 simp
section
variable {X : Cx} {a b c : Expr} {ta tb tc : TE} {pos : Pos}
theorem Q3 {pins : Pn} {σ : St} {H : Hp} {s : Shared} {Q : VK} {k k' : Bool} (I : Inv X pins σ H s) (q : Q (.bl k) H) (e : k = k') : EP X pins σ Q (.bool k') s := by
 subst e
 exact ⟨.bl k, H, I, rfl, q⟩
theorem ZC : OpR X (compareOp .Eq) rEq := by
 intro pins s σ H x y v u Q I rx ry h
 obtain ⟨hs, q⟩ := h
 cases x with
 | non =>
  cases rx
  cases y with
  | non => cases ry; exact PySem.EqNone.eq_none_none (Q3 I q (by simp))
  | bl j => cases ry; exact PySem.EqNone.eq_none_bool (Q3 I q (by simp))
  | int j => obtain ⟨t', rfl⟩ := ry; exact PySem.EqNone.eq_none_int (Q3 I q (by simp))
  | str j => obtain ⟨t', rfl⟩ := ry; exact PySem.EqNone.eq_none_str (Q3 I q (by simp))
  | _ => exact absurd (show false = true from hs) Bool.false_ne_true
 | bl i =>
  cases rx
  cases y with
  | non => cases ry; exact PySem.EqNone.eq_bool_none (Q3 I q (by simp))
  | bl j => cases ry; exact eq_bool (Q3 I q Qmr)
  | str j => obtain ⟨t', rfl⟩ := ry; exact PySem.EqMixed.eq_bool_str (Q3 I q (by simp))
  | _ => exact absurd (show false = true from hs) Bool.false_ne_true
 | int i =>
  obtain ⟨t, rfl⟩ := rx
  cases y with
  | non => cases ry; exact PySem.EqNone.eq_int_none (Q3 I q (by simp))
  | int j => obtain ⟨t', rfl⟩ := ry; exact eq_int (Q3 I q Qk6)
  | str j => obtain ⟨t', rfl⟩ := ry; exact PySem.EqMixed.eq_int_str (Q3 I q (by simp))
  | _ => exact absurd (show false = true from hs) Bool.false_ne_true
 | str i =>
  obtain ⟨t, rfl⟩ := rx
  cases y with
  | non => cases ry; exact PySem.EqNone.eq_str_none (Q3 I q (by simp))
  | bl j => cases ry; exact PySem.EqMixed.eq_str_bool (Q3 I q (by simp))
  | int j => obtain ⟨t', rfl⟩ := ry; exact PySem.EqMixed.eq_str_int (Q3 I q (by simp))
  | str j => obtain ⟨t', rfl⟩ := ry; exact eq_str (Q3 I q Qk5)
  | _ => exact absurd (show false = true from hs) Bool.false_ne_true
 | byt i =>
  obtain ⟨t, rfl⟩ := rx
  cases y with
  | byt j => obtain ⟨t', rfl⟩ := ry; exact PySem.W.eq_bytes (Q3 I q Qk7)
  | _ => exact absurd (show false = true from hs) Bool.false_ne_true
 | _ => cases y <;> exact absurd (show false = true from hs) Bool.false_ne_true
theorem Qkw : OpR X (compareOp .NotEq) rNe := by
 intro pins s σ H x y v u Q I rx ry h
 obtain ⟨hs, q⟩ := h
 cases x with
 | non =>
  cases rx
  cases y with
  | non => cases ry; exact PySem.EqNone.ne_none_none (Q3 I q (by simp))
  | bl j => cases ry; exact PySem.EqNone.ne_none_bool (Q3 I q (by simp))
  | int j => obtain ⟨t', rfl⟩ := ry; exact PySem.EqNone.ne_none_int (Q3 I q (by simp))
  | str j => obtain ⟨t', rfl⟩ := ry; exact PySem.EqNone.ne_none_str (Q3 I q (by simp))
  | _ => exact absurd (show false = true from hs) Bool.false_ne_true
 | bl i =>
  cases rx
  cases y with
  | non => cases ry; exact PySem.EqNone.ne_bool_none (Q3 I q (by simp))
  | bl j => cases ry; exact ne_bool (Q3 I q (congrArg not Qmr))
  | str j => obtain ⟨t', rfl⟩ := ry; exact PySem.EqMixed.ne_bool_str (Q3 I q (by simp))
  | _ => exact absurd (show false = true from hs) Bool.false_ne_true
 | int i =>
  obtain ⟨t, rfl⟩ := rx
  cases y with
  | non => cases ry; exact PySem.EqNone.ne_int_none (Q3 I q (by simp))
  | int j => obtain ⟨t', rfl⟩ := ry; exact ne_int (Q3 I q (congrArg not Qk6))
  | str j => obtain ⟨t', rfl⟩ := ry; exact PySem.EqMixed.ne_int_str (Q3 I q (by simp))
  | _ => exact absurd (show false = true from hs) Bool.false_ne_true
 | str i =>
  obtain ⟨t, rfl⟩ := rx
  cases y with
  | non => cases ry; exact PySem.EqNone.ne_str_none (Q3 I q (by simp))
  | bl j => cases ry; exact PySem.EqMixed.ne_str_bool (Q3 I q (by simp))
  | int j => obtain ⟨t', rfl⟩ := ry; exact PySem.EqMixed.ne_str_int (Q3 I q (by simp))
  | str j => obtain ⟨t', rfl⟩ := ry; exact ne_str (Q3 I q (congrArg not Qk5))
  | _ => exact absurd (show false = true from hs) Bool.false_ne_true
 | byt i =>
  obtain ⟨t, rfl⟩ := rx
  cases y with
  | byt j => obtain ⟨t', rfl⟩ := ry; exact PySem.W.ne_bytes (Q3 I q (congrArg not Qk7))
  | _ => exact absurd (show false = true from hs) Bool.false_ne_true
 | _ => cases y <;> exact absurd (show false = true from hs) Bool.false_ne_true
theorem QgN : OpR X (compareOp .Lt) (rI0 fun i j => .bl (decide (i < j))) := opB0 fun _ _ _ _ _ _ _ q => lt_int q
theorem op_le : OpR X (compareOp .LtE) (rI0 fun i j => .bl (decide (i ≤ j))) := opB0 fun _ _ _ _ _ _ _ q => le_int q
theorem Qjn : OpR X (compareOp .GtE) (rI0 fun i j => .bl (decide (j ≤ i))) := opB0 fun _ _ _ _ _ _ _ q => ge_int q
theorem Qv (b : Expr) {op : CmpOp} (h : op ≠ .In := by decide) (h2 : op ≠ .NotIn := by decide) : behindInMarks op b = false := by
 have e1 : (op == CmpOp.In) = false := by cases op <;> first | rfl | exact absurd rfl h
 have e2 : (op == CmpOp.NotIn) = false := by cases op <;> first | rfl | exact absurd rfl h2
 cases b <;> simp [behindInMarks, e1, e2]
theorem Qee {op : CmpOp} {r : R2} (ho : OpR X (compareOp op) r) (ha : PE X a ta) (hb : PE X b tb) (hm : behindInMarks op b = false) : PE X (.Compare a [op] [b] pos) (tOp r ta tb) := by
 intro pins s σ H Q I h
 exact wpAny_Compare1 (binT ha hb I h fun v u s2 x y H2 I2 rx ry q => ho pins s2 σ H2 x y v u Q I2 rx ry q) hm
def tTest (t : TE) : TT := fun σ H Q => t σ H fun x H' => ∃ k, x = .bl k ∧ Q k H'
theorem Qp {op : CmpOp} {r : R2} (ho : OpR X (compareOp op) r) (ha : PE X a ta) (hb : PE X b tb) (hm : behindInMarks op b = false) : PT X (.Compare a [op] [b] pos) (tTest (tOp r ta tb)) := by
 intro pins s σ H Q I h
 refine wpAny_isTrue_Compare1 (thn (ha pins s σ H _ I h) fun v s1 ⟨x, H1, I1, r1, q1⟩ => thn (hb pins s1 σ H1 _ I1 q1) fun u s2 ⟨y, H2, I2, r2, q2⟩ =>
  thn (ho pins s2 σ H2 x y v u _ I2 r1 r2 q2) fun c s3 ⟨z, H3, I3, r3, k, e, q3⟩ => ?_) hm
 subst e
 cases r3
 exact wpAny_truthy_bool ⟨H3, I3, q3⟩
theorem Qi0 : (sizeLine : Nat) < 2 ^ 63 := by rw [sizeLine_eq]; decide
theorem Qhj {x : V} {us : List Value} (r : Vals [x] us) : ∃ u, us = [u] ∧ RelV x u := by
 cases r with
 | cons r1 r2 => cases r2; exact ⟨_, rfl, r1⟩
theorem Qll {x y : V} {us : List Value} (r : Vals [x, y] us) : ∃ u w', us = [u, w'] ∧ RelV x u ∧ RelV y w' := by
 cases r with
 | cons r1 r2 =>
  cases r2 with
  | cons r3 r4 => cases r4; exact ⟨_, _, rfl, r1, r3⟩
end
end L2
namespace L2
open PySem PySem.Spec PyProof.Rows
structure ObjM (h : Heap) (x dx C : Addr) (mA : Str → Option Value) : Prop where
 obj : h.get? x = some (PySem.W.instObj C dx)
 ns : h.Ns1 dx mA
 ne : dx ≠ x
theorem QkG {h : Heap} {dx : Addr} {mA : Str → Option Value} (n : h.Ns1 dx mA) : ∃ od, h.get? dx = some od ∧ ∀ name, PySem.W.lookIn name od = some (mA name) := by
 obtain ⟨o, es, ep, ho, hd, hk, _, hm⟩ := n
 refine ⟨o, ho, fun name => ?_⟩
 have e := hm name
 unfold nsFind findBy at e
 rw [← Array.find?_toList] at e
 unfold PySem.W.lookIn
 rw [hd]
 dsimp only
 split
 ·rename_i y q
  rw [q] at e
  exact congrArg some e
 ·rename_i q
  rw [q] at e
  have a : es.toList.any (·.refKey) = false := by
   rw [List.any_eq_false]
   intro y hy
   obtain ⟨z, t, hkey⟩ := hk y (Array.mem_toList_iff.mp hy)
   simp [DictEntry.refKey, hkey]
  have a' : ¬ es.toList.any (·.refKey) = true := by rw [a]; exact Bool.false_ne_true
  rw [if_neg a']
  exact congrArg some e
theorem ObjM.look {h : Heap} {x dx C : Addr} {mA : Str → Option Value} (I : ObjM h x dx C mA) : ∃ od, PySem.W.InstAt h x (PySem.W.instObj C dx) C (some od) ∧ ∀ name, PySem.W.lookIn name od = some (mA name) :=
 let ⟨od, ho, hl⟩ := QkG I.ns
 ⟨od, ⟨I.obj, rfl, rfl, ho⟩, hl⟩
section
variable {prog : Program} {w : World} {A : Around} {E : Value → Shared → Prop} {s : Shared} {K : Fg} {x dx C f : Addr} {mA : Str → Option Value} {name : Str} {v : Value}
theorem Qm2 {expr : Bool} {Q : Value → Shared → Prop} (X : K.In s.heap) (I : ObjM s.heap x dx C mA) (hg : PySem.W.plainGet K C name = true) (hh : PySem.W.hasDictIn K C = true)
  (ha : PySem.W.findIn K (.ref C) name = some none) (hv : mA name = some v) (hv' : PySem.W.handedIn v = true) (h : Q v { s with toks := s.toks + 1 }) :
  wpAny (model prog w) A (getAttr (.ref x) name expr) Q E s := by
 obtain ⟨od, J, hl⟩ := I.look
 exact PySem.W.get_value X J (PySem.W.plainGet_of hg).1 (PySem.W.findObj_own hh ha rfl (by rw [hl, hv])) hv' h
theorem QlO {pl : Sem Bool} {Q : Value × List Value → Shared → Prop} (X : K.In s.heap) (I : ObjM s.heap x dx C mA) (hg : PySem.W.plainGet K C name = true)
  (hf : PySem.W.findIn K (.ref C) name = some (some (.ref f))) (ht : PySem.W.isFn K (.ref f) = true) (hv : mA name = none) (h : Q (.ref f, [.ref x]) s) :
  wpAny (model prog w) A (getMethod (.ref x) name pl) Q E s := by
 obtain ⟨od, J, hl⟩ := I.look
 exact PySem.W.method_fn X J (PySem.W.plainGet_of hg).1 (PySem.W.plainGet_of hg).2 hf (beq_iff_eq.mp ht) (by show (PySem.W.lookIn name od).map (·.isSome) = some false; rw [hl, hv]; rfl) h
theorem QmJ {ns : List Str} {Q : Unit → Shared → Prop} (X : K.In s.heap) (I : ObjM s.heap x dx C mA)
  (hs : PySem.W.findIn K (.ref C) "__setattr__" = some (some (.builtin "object.__setattr__"))) (hp : PySem.W.plainOver K C = true) (ht : PySem.W.takerIn K C name = some none) (hh : PySem.W.hasDictIn K C = true)
  (hw : PySem.Within mA ns) (hsz : ns.length ≤ sizeLine)
  (h : ∀ h', ObjM h' x dx C (fun y => if y = name then some v else mA y) → Heap.SameBut dx s.heap h' → Q () { s with heap := h', toks := s.toks + 2 }) :
  wpAny (model prog w) A (setAttr (.ref x) name v) Q E s := by
 obtain ⟨od, J, hl⟩ := I.look
 refine PySem.W.set_plain X J hs (PySem.W.osa_open (s := { s with toks := s.toks + 1 }) (r := none) X J hp ht fun b => ?_)
 obtain ⟨cd, hc, hd'⟩ := PySem.W.any_some hh
 have hx : s.heap.get? x = some ⟨.ref C, some dx, .plain, #[]⟩ := I.obj
 refine wpAny_bind (wpAny_pure (wpAny_bind (wpAny_bind (wpAny_loadPart hx (wpAny_bind (PySem.W.Looks.here (s := { s with toks := s.toks + 1 }) (PySem.W.looks_clsIn X hc) ?_))))))
 rw [hd']
 refine wpAny_pure (a := some dx) (wpAny_bind (wpAny_pure (wpAny_bind ?_)))
 refine wpAny_nsSet1 (s := { s with toks := s.toks + 1 }) I.ns fun h' hn2 hs2 => ?_
 obtain ⟨oD, esD, epD, hoD, hdD, hcD⟩ := hn2.count (PySem.Within.cons name v hw)
 refine wpAny_bind (wpAny_lookBehind hoD (by rw [hdD]; exact pastItsLine_dict (Nat.le_trans hcD (by rw [List.length_cons]; omega))) ?_)
 exact wpAny_pure (h _ ⟨(hs2.2 _ (Ne.symm I.ne)).trans I.obj, hn2, I.ne⟩ hs2)
theorem QlI {R : Result → Shared → Prop} {vs : List Value} {kw : List (Str × Value)} (X : K.In s.heap) (hm : PySem.W.makesIn K C = true)
  (hi : PySem.W.findIn K (.ref C) "__init__" = some (some (.ref f))) (hf : PySem.W.typeIn K (.ref f) = some (.type "function"))
  (h : codeAny (model prog w) (A.under (.builtin "type.__call__" ⟨.ref C :: vs, kw⟩)) (.call (.ref f) ⟨.ref (s.heap.objs.size + 1) :: vs, kw⟩) (PySem.W.InitBack (s.heap.objs.size + 1) R)
   { s with heap := (s.heap.push PySem.W.emptyDict).push (PySem.W.instObj C s.heap.objs.size) }) :
  codeAny (model prog w) A (.call (.ref C) ⟨vs, kw⟩) R s := by
 obtain ⟨hh, g, d, t, os⟩ := s
 exact PySem.W.make_core (PySem.W.makes_of X hm) (PySem.W.looks_findIn X hi) (fun self => PySem.W.bind_fn X self hf) (.inl rfl) h
end
def QdH (f : Str) (v : V) : List (Str × V) → List (Str × V)
 | [] => [(f, v)]
 | (g, x) :: r => if g = f then (g, v) :: r else (g, x) :: QdH f v r
theorem QfE (f g : Str) (v : V) : ∀ fs : List (Str × V), (QdH f v fs).lookup g = if g = f then some v else fs.lookup g
 | [] => by
  show List.lookup g [(f, v)] = _
  by_cases h : g = f
  ·have hb : (g == f) = true := beq_iff_eq.mpr h
   simp only [List.lookup, hb, if_pos h]
  ·have hb : (g == f) = false := beq_eq_false_iff_ne.mpr h
   simp only [List.lookup, hb, if_neg h]
 | (k, x) :: r => by
  have ih := QfE f g v r
  rw [show QdH f v ((k, x) :: r) = (if k = f then (k, v) :: r else (k, x) :: QdH f v r) from rfl]
  by_cases hk : k = f
  ·rw [if_pos hk]
   by_cases h : g = k
   ·have hb : (g == k) = true := beq_iff_eq.mpr h
    simp only [List.lookup, hb, if_pos (h.trans hk)]
   ·have hb : (g == k) = false := beq_eq_false_iff_ne.mpr h
    simp only [List.lookup, hb, if_neg (fun e : g = f => h (e.trans hk.symm))]
  ·rw [if_neg hk]
   by_cases h : g = k
   ·have hb : (g == k) = true := beq_iff_eq.mpr h
    simp only [List.lookup, hb, if_neg (fun e : g = f => hk (h.symm.trans e))]
   ·have hb : (g == k) = false := beq_eq_false_iff_ne.mpr h
    simp only [List.lookup, hb]
    exact ih
theorem QfK (f : Str) (v : V) : ∀ fs : List (Str × V), f ∈ (QdH f v fs).map (·.1) ∧ ∀ g, g ∈ fs.map (·.1) → g ∈ (QdH f v fs).map (·.1)
 | [] => ⟨by simp [QdH], fun g h => by simp at h⟩
 | (k, x) :: r => by
  obtain ⟨i1, i2⟩ := QfK f v r
  rw [show QdH f v ((k, x) :: r) = (if k = f then (k, v) :: r else (k, x) :: QdH f v r) from rfl]
  by_cases hk : k = f
  ·rw [if_pos hk]
   subst hk
   exact ⟨by simp, fun g h => by simpa using h⟩
  ·rw [if_neg hk]
   refine ⟨?_, fun g h => ?_⟩
   ·rw [List.map_cons]
    exact List.mem_cons_of_mem _ i1
   ·rw [List.map_cons] at h ⊢
    rcases List.mem_cons.mp h with e | e
    ·exact List.mem_cons.mpr (.inl e)
    ·exact List.mem_cons_of_mem _ (i2 g e)
theorem QfI (f : Str) (v : V) : ∀ fs : List (Str × V), (QdH f v fs).length ≤ fs.length + 1
 | [] => by simp [QdH]
 | (k, x) :: r => by
  have ih := QfI f v r
  rw [show QdH f v ((k, x) :: r) = (if k = f then (k, v) :: r else (k, x) :: QdH f v r) from rfl]
  by_cases hk : k = f
  ·rw [if_pos hk, List.length_cons, List.length_cons]; omega
  ·rw [if_neg hk, List.length_cons, List.length_cons]; omega
theorem RelO.some_of {v : V} {o : Option Value} (r : RelO (some v) o) : ∃ u, o = some u ∧ RelV v u := by
 cases o with
 | none => exact (show False from r).elim
 | some u => exact ⟨u, rfl, r⟩
theorem RelO.none_of {o : Option Value} (r : RelO none o) : o = none := by
 cases o with
 | none => rfl
 | some u => exact (show False from r).elim
theorem QkT {v : V} {u : Value} (r : RelV v u) : PySem.W.handedIn u = true := by
 cases v with
 | non => cases (show u = Value.none from r); rfl
 | bl b => cases (show u = Value.bool b from r); rfl
 | int i => obtain ⟨t, e⟩ := (show ∃ t, u = Value.int i t from r); cases e; rfl
 | str x => obtain ⟨t, e⟩ := (show ∃ t, u = Value.str x t from r); cases e; rfl
 | byt b => obtain ⟨t, e⟩ := (show ∃ t, u = Value.bytes b t from r); cases e; rfl
 | flt b => obtain ⟨t, e⟩ := (show ∃ t, u = Value.float b t from r); cases e; rfl
 | ref a => cases (show u = Value.ref a from r); rfl
 | ty n => cases (show u = Value.type n from r); rfl
section
variable {P : Program} {w : World} {H H' : Hp} {h h' : Heap} {a C dx : Addr} {fs fs' : List (Str × V)}
theorem Qg4 (hok : HOk P w H h) (e : H a = some (.ins C dx fs)) : ∃ mA, ObjM h a dx C mA ∧ (∀ f, RelO (fs.lookup f) (mA f)) ∧ PySem.Within mA (fs.map (·.1)) ∧ fs.length ≤ 1000 ∧ H dx = some (.own a) := by
 obtain ⟨d, z, ne, ob, mA, n, r, q⟩ := (show ObjOk P w H h a (.ins C dx fs) from hok a _ e)
 exact ⟨mA, ⟨ob, n, ne⟩, r, q, z, d⟩
end
structure Cls (K : Fg) (C : Addr) : Prop where
 pg : PySem.W.plainGet K C Str.empty = true
 hd : PySem.W.hasDictIn K C = true
 po : PySem.W.plainOver K C = true
 sa : PySem.W.findIn K (.ref C) "__setattr__" = some (some (.builtin "object.__setattr__"))
theorem Cls.get {K : Fg} {C : Addr} (c : Cls K C) (f : Str) : PySem.W.plainGet K C f = true := c.pg
def NoAttr (K : Fg) (C : Addr) (f : Str) : Prop := PySem.W.findIn K (.ref C) f = some none
theorem NoAttr.taker {K : Fg} {C : Addr} {f : Str} (n : NoAttr K C f) : PySem.W.takerIn K C f = some none := by
 unfold PySem.W.takerIn
 rw [show PySem.W.findIn K (.ref C) f = some none from n]
 rfl
structure Meth (K : Fg) (C : Addr) (m : Str) (f : Addr) : Prop where
 at_ : PySem.W.findIn K (.ref C) m = some (some (.ref f))
 fn : PySem.W.isFn K (.ref f) = true
 kp : PySem.W.keepIn K (.ref f) = true
section
variable {X : Cx} {pins : Pn} {σ : St} {H : Hp} {s : Shared} {a C dx : Addr} {fs : List (Str × V)} {f : Str} {v : V} {A : Around} {E : Value → Shared → Prop}
theorem Qjx {b : Bool} {Q : Value → Shared → Prop} (I : Inv X pins σ H s) (e : H a = some (.ins C dx fs)) (c : Cls X.K C) (n : NoAttr X.K C f) (l : fs.lookup f = some v)
  (h : ∀ u s', Inv X pins σ H s' → RelV v u → Q u s') : wpAny (model X.prog X.w) A (getAttr (.ref a) f b) Q E s := by
 obtain ⟨mA, O, r, _, _, _⟩ := Qg4 I.hok e
 obtain ⟨u, hu, ru⟩ := RelO.some_of (v := v) (o := mA f) (by rw [← l]; exact r f)
 exact Qm2 I.kIn O (c.get f) c.hd n hu (QkT ru) (h u _ (I.tok _) ru)
theorem Qgu {m : Str} {g : Addr} {pl : Sem Bool} {Q : Value × List Value → Shared → Prop} (I : Inv X pins σ H s) (e : H a = some (.ins C dx fs)) (c : Cls X.K C) (k : Meth X.K C m g) (l : fs.lookup m = none)
  (h : Q (.ref g, [.ref a]) s) : wpAny (model X.prog X.w) A (getMethod (.ref a) m pl) Q E s := by
 obtain ⟨mA, O, r, _, _, _⟩ := Qg4 I.hok e
 have hn : mA m = none := RelO.none_of (by rw [← l]; exact r m)
 exact QlO I.kIn O (c.get m) k.at_ k.fn hn h
theorem Qjg {y : V} {u : Value} {Q : Unit → Shared → Prop} (I : Inv X pins σ H s) (e : H a = some (.ins C dx fs)) (c : Cls X.K C) (n : NoAttr X.K C f) (hl : fs.length < 1000) (ry : RelV y u)
  (h : ∀ s', Inv X pins σ (upd H a (.ins C dx (QdH f y fs))) s' → Q () s') : wpAny (model X.prog X.w) A (setAttr (.ref a) f u) Q E s := by
 obtain ⟨mA, O, r, wi, _, ho⟩ := Qg4 I.hok e
 have hz : (fs.map (·.1)).length ≤ sizeLine := by rw [List.length_map, sizeLine_eq]; omega
 refine QmJ I.kIn O c.sa c.po n.taker c.hd wi hz fun h' O' sb => h _ ?_
 have hd : ∃ o, h'.get? dx = some o := let ⟨o, _, _, e', _⟩ := O'.ns; ⟨o, e'⟩
 refine I.write (x := a) (e := dx) (by rw [e]; exact True.intro) (.inr ho) (fun b q hb z => (sb.2 b hb).trans z) hd ?_
 refine ⟨by rw [Qh O.ne]; exact ho, ?_, O.ne, O'.obj, _, O'.ns, fun g => ?_, fun g hg => ?_⟩
 ·have := QfI f y fs; omega
 ·show RelO ((QdH f y fs).lookup g) (if g = f then some u else mA g)
  rw [QfE]
  by_cases q : g = f
  ·rw [if_pos q, if_pos q]; exact ry
  ·rw [if_neg q, if_neg q]; exact r g
 ·by_cases q : g = f
  ·rw [q]; exact (QfK f y fs).1
  ·refine (QfK f y fs).2 g (wi g fun z => hg ?_)
   show (if g = f then some u else mA g) = none
   rw [if_neg q]; exact z
theorem Inv.made (I : Inv X pins σ H s) : Inv X pins σ (upd (upd H s.heap.objs.size (.own (s.heap.objs.size + 1))) (s.heap.objs.size + 1) (.ins C s.heap.objs.size []))
  { s with heap := (s.heap.push PySem.W.emptyDict).push (PySem.W.instObj C s.heap.objs.size) } := by
 have e1 : (s.heap.push PySem.W.emptyDict).get? s.heap.objs.size = some PySem.W.emptyDict := Heap.get?_push_size s.heap rfl
 have e2 : ((s.heap.push PySem.W.emptyDict).push (PySem.W.instObj C s.heap.objs.size)).get? (s.heap.objs.size + 1) = some (PySem.W.instObj C s.heap.objs.size) := by
  have := Heap.get?_push_size (s.heap.push PySem.W.emptyDict) (o := PySem.W.instObj C s.heap.objs.size) rfl
  rwa [Heap.size_push] at this
 have e3 : (s.heap.push PySem.W.emptyDict).Ns s.heap.objs.size (fun _ => none) := ⟨PySem.W.emptyDict, #[], _, e1, rfl, (fun e he => absurd he (by simp)), fun _ => rfl⟩
 have I1 := I.laid (a := s.heap.objs.size) (o := .own (s.heap.objs.size + 1)) (h' := s.heap.push PySem.W.emptyDict) (t' := s.toks) (fun b u q => Heap.get?_push_of_some _ q) (Nat.le_refl _) ⟨_, e1⟩
 refine I1.laid (a := s.heap.objs.size + 1) (o := .ins C s.heap.objs.size []) (t' := s.toks) (fun b u q => Heap.get?_push_of_some _ q) (Nat.le_of_eq (Heap.size_push _ _)) ?_
 have ne : s.heap.objs.size ≠ s.heap.objs.size + 1 := Nat.ne_of_lt (Nat.lt_succ_self _)
 refine ⟨by rw [Qh ne, Qd], Nat.zero_le _, ne, e2, fun _ => none, (Heap.Ns1.of_empty e3).at fun o q => Heap.get?_push_of_some _ q, fun _ => True.intro, fun y hy => absurd rfl hy⟩
theorem Qm7 {prog : Program} {w : World} {env : Env} {e : Expr} {f : Str} {pos : Pos} {s : Shared} {Q : Value → Shared → Prop} (hb : attributeBase e f env (eval e env) = eval e env)
  (h : wpAny (model prog w) A (eval e env) (fun o s₁ => wpAny (model prog w) A (getAttr o f true) Q E s₁) E s) : wpAny (model prog w) A (eval (.Attribute e f pos) env) Q E s :=
 Attribute_any_ h (by rw [arm_eval_Attribute, hb])
end
def tFld (K : Fg) (ta : TE) (f : Str) : TE := fun σ H Q => ta σ H fun x H1 => ∃ a C dx fs v, x = .ref a ∧ H1 a = some (.ins C dx fs) ∧ Cls K C ∧ NoAttr K C f ∧ fs.lookup f = some v ∧ Q v H1
def sFld (K : Fg) (ta tv : TE) (f : Str) : TS := fun D σ H => tv σ H fun y H1 => ta σ H1 fun x H2 => ∃ a C dx fs, x = .ref a ∧ H2 a = some (.ins C dx fs) ∧ Cls K C ∧ NoAttr K C f ∧ fs.length < 1000 ∧
 D.nx σ (upd H2 a (.ins C dx (QdH f y fs)))
section
variable {X : Cx} {o e value : Expr} {f : Str} {pos pos' tpos : Pos} {ta tv : TE}
theorem QB (he : PE X e ta) (hb : attributeBase e f X.env (eval e X.env) = eval e X.env) : PE X (.Attribute e f pos) (tFld X.K ta f) := by
 intro pins s σ H Q I h
 refine Qm7 hb (thn (he pins s σ H _ I h) fun u s1 ⟨x, H1, I1, rx, a, C, dx, fs, v, ex, ea, c, n, l, q⟩ => ?_)
 subst ex
 obtain rfl : u = Value.ref a := rx
 exact Qjx I1 ea c n l fun u' s2 I2 ru => ⟨v, H1, I2, ru, q⟩
theorem Qcd (ha : PE X o ta) (hv : PE X value tv) (hs : swapsWith value (some (.Attribute o f pos')) pos.line X.env = pure false) : PS X (.Assign [.Attribute o f pos'] value pos) (sFld X.K ta tv f) := by
 intro pins s σ H D I h
 refine plainObj_wpAny_Assign_Attribute (thn (hv pins s σ H _ I h) fun u s1 ⟨y, H1, I1, ry, q⟩ => thn (ha pins s1 σ H1 _ I1 q) fun ov s2 ⟨x, H2, I2, rx, a, C, dx, fs, ex, ea, c, n, l, q2⟩ => ?_) hs
 subst ex
 obtain rfl : ov = Value.ref a := rx
 exact Qjg I2 ea c n l ry fun s3 I3 => ⟨σ, _, I3, q2⟩
end
section
variable {X : Cx} {pins : Pn} {σ : St} {H : Hp} {s : Shared} {A : Around} {E : Value → Shared → Prop} {Q : Value → Shared → Prop} {c : Value} {b : Bool}
inductive TyOf (K : Fg) (H : Hp) : V → Value → Prop where
 | non : TyOf K H .non (.type "NoneType")
 | bl (x : Bool) : TyOf K H (.bl x) (.type "bool")
 | int (i : Int) : TyOf K H (.int i) (.type "int")
 | str (x : Str) : TyOf K H (.str x) (.type "str")
 | flt (x : UInt64) : TyOf K H (.flt x) (.type "float")
 | lst {a : Addr} {xs : List V} (e : H a = some (.lst xs)) : TyOf K H (.ref a) (.type "list")
 | frz {a : Addr} {o : Obj} {xs : List V} (e : H a = some (.frz o (.lst xs))) : TyOf K H (.ref a) (.type "list")
 | tup {a : Addr} {xs : List V} (e : H a = some (.tup xs)) : TyOf K H (.ref a) (.type "tuple")
 | dK {a : Addr} {kvs : List (Key × V)} (e : H a = some (.dK kvs)) : TyOf K H (.ref a) (.type "dict")
 | dT {a : Addr} {kvs : List (List Key × V)} (e : H a = some (.dT kvs)) : TyOf K H (.ref a) (.type "dict")
 | ins {a C dx : Addr} {fs : List (Str × V)} (e : H a = some (.ins C dx fs)) (cl : Cls K C) (ha : PySem.W.findIn K (.ref C) "__class__" = some (some (.builtin "object.__class__")))
   (hn : PySem.W.specialIn K (.builtin "object.__class__") "__get__" = some (some (.builtin "getset_descriptor.__get__"))) (htk : PySem.W.takesIn K (.builtin "object.__class__") = some true)
   (hm : PySem.W.mroIn K C (.type "object") = some true) : TyOf K H (.ref a) (.ref C)
theorem QkO {x : V} {u t : Value} (I : Inv X pins σ H s) (rx : RelV x u) (ty : TyOf X.K H x t) (e : PySem.W.kitOne X.K t c = some b) (h : ∀ tk, Q (.bool b) { s with toks := tk }) :
  wpAny (model X.prog X.w) A (call (.builtin "isinstance") [u, c]) Q E s := by
 cases ty with
 | non => cases (show u = Value.none from rx); exact PySem.W.kia_one PySem.W.kitx_none I.kIn True.intro e (fun z => nomatch z) h
 | bl y => cases (show u = Value.bool y from rx); exact PySem.W.kia_one PySem.W.kitx_bool I.kIn True.intro e (fun z => nomatch z) h
 | int i => obtain ⟨t, q⟩ := (show ∃ t, u = Value.int i t from rx); cases q; exact PySem.W.kia_one PySem.W.kitx_int I.kIn True.intro e (fun z => nomatch z) h
 | str y => obtain ⟨t, q⟩ := (show ∃ t, u = Value.str y t from rx); cases q; exact PySem.W.kia_one PySem.W.kitx_str I.kIn True.intro e (fun z => nomatch z) h
 | flt y => obtain ⟨t, q⟩ := (show ∃ t, u = Value.float y t from rx); cases q; exact PySem.W.kia_one PySem.W.kitx_float I.kIn True.intro e (fun z => nomatch z) h
 | @lst a xs ea =>
  cases (show u = Value.ref a from rx)
  obtain ⟨_, _, n, _, h1⟩ := (show ObjOk X.prog X.w H s.heap a (.lst xs) from I.hok a _ ea)
  exact PySem.W.kia_one PySem.W.kitx_list I.kIn ⟨_, h1, rfl⟩ e (fun z => nomatch z) h
 | @frz a ob xs ea =>
  cases (show u = Value.ref a from rx)
  obtain ⟨_, _, _, n, _, h1⟩ := (show ObjOk X.prog X.w H s.heap a (.frz ob (.lst xs)) from I.hok a _ ea)
  exact PySem.W.kia_one PySem.W.kitx_list I.kIn ⟨_, h1, rfl⟩ e (fun z => nomatch z) h
 | @tup a xs ea =>
  cases (show u = Value.ref a from rx)
  obtain ⟨_, _, _, p⟩ := (show ObjOk X.prog X.w H s.heap a (.tup xs) from I.hok a _ ea)
  obtain ⟨o, h1, h2, _⟩ := p
  exact PySem.W.kia_one PySem.W.kitx_tuple I.kIn ⟨o, h1, h2⟩ e (fun z => nomatch z) h
 | @dK a kvs ea =>
  cases (show u = Value.ref a from rx)
  obtain ⟨_, _, vs, _, p⟩ := (show ObjOk X.prog X.w H s.heap a (.dK kvs) from I.hok a _ ea)
  obtain ⟨o, es, ep, h1, h2, _⟩ := p
  exact PySem.W.kia_one PySem.W.kitx_dict I.kIn ⟨o, h1, h2.1⟩ e (fun z => nomatch z) h
 | @dT a kvs ea =>
  cases (show u = Value.ref a from rx)
  obtain ⟨_, _, xs, _, o, es, ep, h1, h2, _⟩ := (show ObjOk X.prog X.w H s.heap a (.dT kvs) from I.hok a _ ea)
  exact PySem.W.kia_one PySem.W.kitx_dict I.kIn ⟨o, h1, h2.1⟩ e (fun z => nomatch z) h
 | @ins a C dx fs ea cl ha hn htk hm =>
  cases (show u = Value.ref a from rx)
  obtain ⟨mA, O, _⟩ := Qg4 I.hok ea
  obtain ⟨od, J, _⟩ := O.look
  exact PySem.W.kia_one (PySem.W.kitx_own (cl.get _) cl.hd ha hn htk hm) I.kIn J e (fun z => nomatch z) h
end
end L2
namespace L2
open PySem PySem.Spec PyProof.Rows
structure Room (k : Nat) (A : Around) : Prop where
 hd : A.handled = none
 dp : A.depth + 3 * k + 5 < recursionLimit
 un : A.units + 16 * k + 200 < cLine
theorem Room.mono {j k : Nat} {A : Around} (r : Room k A) (h : j ≤ k) : Room j A := ⟨r.hd, by have := r.dp; omega, by have := r.un; omega⟩
theorem Room.deeper {k : Nat} {A : Around} (r : Room (k + 1) A) (env : Env) : Room k (A.deeper env) :=
 ⟨r.hd, by have := r.dp; show A.depth + 1 + 3 * k + 5 < _; omega, by have := r.un; show A.units + 3 + 16 * k + 200 < _; omega⟩
theorem Qjs {A : Around} {C : Addr} {us : List Value} {kw : List (Str × Value)} : (A.under (.builtin "type.__call__" ⟨.ref C :: us, kw⟩)).depth = A.depth + 1 := by
 first | rfl | simp [Around.under, Code.weight, Code.isCreation, Code.isGuard, Code.isCaller, Code.frames, Code.isFrame, guardIds]
theorem Qjr {A : Around} {C : Addr} {us : List Value} {kw : List (Str × Value)} : (A.under (.builtin "type.__call__" ⟨.ref C :: us, kw⟩)).units = A.units + 1 := by
 first | rfl | simp [Around.under, Code.cUnits, Code.frames, Code.isFrame]
theorem Room.make {k : Nat} {A : Around} (r : Room (k + 1) A) (C : Addr) (us : List Value) (kw : List (Str × Value)) : Room k (A.under (.builtin "type.__call__" ⟨.ref C :: us, kw⟩)) :=
 ⟨r.hd, by have := r.dp; rw [Qjs]; omega, by have := r.un; rw [Qjr]; omega⟩
theorem Room.depth {k : Nat} {A : Around} (r : Room k A) : A.depth < recursionLimit := by have := r.dp; omega
theorem Room.units {k : Nat} {A : Around} (r : Room k A) : A.units + 64 < cLine := by have := r.un; omega
theorem Room.units0 {k : Nat} {A : Around} (r : Room k A) : A.units < cLine := by have := r.un; omega
def Qnc : TA := fun _ H Q => Q [] H
def QmD (ta : TE) (tr : TA) : TA := fun σ H Q => ta σ H fun x H1 => tr σ H1 fun xs H2 => Q (x :: xs) H2
section
variable {X : Cx} {e : Expr} {es : List Expr} {te : TE} {t : TA} {pos : Pos}
theorem Qc : PA X [] Qnc := fun _ _ _ _ H Q I h => Calls.spliced_nil ⟨[], H, I, .nil, h⟩
theorem Qa (ha : PE X e te) (hr : PA X es t) (hs : starEach (e :: es) X.env = (false, eval e X.env) :: starEach es X.env := by rfl) : PA X (e :: es) (QmD te t) := by
 intro pos pins s σ H Q I h
 rw [hs]
 show wpAny _ _ (spliced ((false, eval e X.env) :: backTo pos (starEach es X.env))) _ _ s
 refine Calls.spliced_cons (thn (ha pins s σ H _ I h) fun u s1 ⟨x, H1, I1, r1, q1⟩ => ?_)
 exact thn (hr pos pins s1 σ H1 _ I1 q1) fun us s2 ⟨xs, H2, I2, r2, q2⟩ => ⟨x :: xs, H2, I2, .cons r1 r2, q2⟩
def tTup (t : TA) : TE := fun σ H Q => t σ H fun xs H1 => xs.length ≤ sizeLine ∧ ∀ p, H1 p = none → Q (.ref p) (upd H1 p (.tup xs))
def tLst (t : TA) : TE := fun σ H Q => t σ H fun xs H1 => xs.length ≤ sizeLine ∧ ∀ p, H1 p = none → Q (.ref p) (upd H1 p (.lst xs))
theorem QaE {x1} (h : PA X es t) : PE X (.Tuple es x1 pos) (tTup t) := by
 intro pins s σ H Q I hq
 refine wpAny_Tuple_spliced (thn (h pos pins s σ H _ I hq) fun us s1 ⟨xs, H1, I1, r, z, q⟩ => ⟨by rw [← r.length]; exact z, ?_⟩)
 have hf : H1 s1.heap.objs.size = none := I1.hok.fresh (Nat.le_refl _)
 refine ⟨.ref s1.heap.objs.size, upd H1 s1.heap.objs.size (.tup xs), I1.laid (t' := s1.toks) (fun b u e => Heap.get?_push_of_some _ e) (Nat.le_refl _) ?_, rfl, q _ hf⟩
 exact ⟨z, us, r, ⟨_, Heap.get?_push_size _ rfl, rfl, _, rfl⟩⟩
theorem Zu (h : PA X es t) : PE X (.List es pos) (tLst t) := by
 intro pins s σ H Q I hq
 refine wpAny_List_spliced (thn (h pos pins s σ H _ I hq) fun us s1 ⟨xs, H1, I1, r, z, q⟩ => ⟨by rw [← r.length]; exact z, ?_⟩)
 have hf : H1 s1.heap.objs.size = none := I1.hok.fresh (Nat.le_refl _)
 refine ⟨.ref s1.heap.objs.size, upd H1 s1.heap.objs.size (.lst xs), I1.laid (t' := s1.toks) (fun b u e => Heap.get?_push_of_some _ e) (Nat.le_refl _) ?_, rfl, q _ hf⟩
 exact ⟨z, us, 0, r, Heap.get?_push_size _ rfl⟩
end
abbrev Sp := List V → Hp → VK → XK → Prop
abbrev CXT := List Env → Hp → Shared → XK → Value → Shared → Prop
structure Env0 (P : Program) (w : World) (K : Fg) (mg : Str → Option Value) (base : Heap) (A : Around) (outer : List Env) (s : Shared) (H : Hp) : Prop where
 frames : A.frames = some outer
 mod : Mod K mg base
 bs : ∀ b o, base.get? b = some o → s.heap.get? b = some o ∧ H b = none
 bsz : base.objs.size ≤ s.heap.objs.size
 funs : s.heap.FunFrames base outer
 frf : ∀ b ∈ frs outer, H b = none
 hok : HOk P w H s.heap
 bare : AllBare s.gens
def CE (outer : List Env) (P : Program) (w : World) (H : Hp) (s : Shared) (Q : VK) (u : Value) (s' : Shared) : Prop :=
 ∃ v H', s'.os = s.os ∧ AllBare s'.gens ∧ Un (frs outer) [] H H' s.heap s'.heap ∧ HOk P w H' s'.heap ∧ RelV v u ∧ Q v H'
def CR (CX : CXT) (outer : List Env) (P : Program) (w : World) (H : Hp) (s : Shared) (Q : VK) (E : XK) (r : Result) (s' : Shared) : Prop :=
 match r with
 | .ok (.ret u) => CE outer P w H s Q u s'
 | .ok _ => False
 | .error e => CX outer H s E e s'
structure FnOk (P : Program) (w : World) (K : Fg) (mg : Str → Option Value) (base : Heap) (CX : CXT) (k : Nat) (f : Addr) (fd : FuncData) (ps : List Str) (sp : Sp) : Prop where
 len : ∀ vs H Q E, sp vs H Q E → vs.length = ps.length
 run : ∀ (A : Around) (outer : List Env) (s : Shared) (H : Hp) (args : Args) (us : List Value) (vs : List V) (Q : VK) (E : XK), Room k A → Env0 P w K mg base A outer s H → BindsTo s fd args (ps.zip us) → Vals vs us → sp vs H Q E →
  codeAny (model P w) A (.call (.ref f) args) (CR CX outer P w H s Q E) s
theorem FnOk.mono {P : Program} {w : World} {K : Fg} {mg : Str → Option Value} {base : Heap} {CX : CXT} {j k : Nat} {f : Addr} {fd : FuncData} {ps : List Str} {sp : Sp} (F : FnOk P w K mg base CX j f fd ps sp) (h : j ≤ k) :
  FnOk P w K mg base CX k f fd ps sp := ⟨F.len, fun A outer s H args us vs Q E hr => F.run A outer s H args us vs Q E (hr.mono h)⟩
theorem Env0.make {P : Program} {w : World} {K : Fg} {mg : Str → Option Value} {base : Heap} {A : Around} {outer : List Env} {s : Shared} {H : Hp} (e : Env0 P w K mg base A outer s H) (C : Addr) (us : List Value) (kw : List (Str × Value)) :
  Env0 P w K mg base (A.under (.builtin "type.__call__" ⟨.ref C :: us, kw⟩)) outer s H := ⟨by first | exact e.frames | (simpa [Around.under, Code.envs, Code.isFrame, pushEnvs] using e.frames), e.mod, e.bs, e.bsz, e.funs, e.frf, e.hok, e.bare⟩
section
variable {X : Cx} {pins : Pn} {σ : St} {H : Hp} {s s' : Shared}
theorem Inv.env0 (I : Inv X pins σ H s) : Env0 X.prog X.w X.K X.mg X.base X.A X.stack s H :=
 ⟨I.ok.frames, I.ok.mod, I.bs, Nat.le_trans I.ok.bsz I.sz, I.stack, I.stkFree, I.hok, I.bare⟩
theorem Inv.after {Q : VK} {u : Value} (I : Inv X pins σ H s) (h : CE X.stack X.prog X.w H s Q u s') : EP X pins σ Q u s' := by
 obtain ⟨v, H', os, bare, un, hok, r, q⟩ := h
 obtain ⟨hh, g, d, t, os'⟩ := s'
 obtain rfl : os' = s.os := os
 exact ⟨v, H', I.call (h' := hh) (g' := g) (d' := d) (t' := t) (ch := []) un hok bare (fun b z => absurd z (by simp)), r, q⟩
end
def Qlp (sp : Sp) (dvs : List V) (E : XK) (t : TA) : TE := fun σ H Q => t σ H fun vs H1 => sp (vs ++ dvs) H1 Q E
def Qjf (C : Addr) (m : Str) (sp : Sp) (dvs : List V) (E : XK) (ta : TE) (t : TA) : TE := fun σ H Q => ta σ H fun x H1 => ∃ a dx fs, x = .ref a ∧ H1 a = some (.ins C dx fs) ∧ fs.lookup m = none ∧
 t σ H1 fun vs H2 => sp (x :: (vs ++ dvs)) H2 Q E
def tMake (C : Addr) (sp : Sp) (dvs : List V) (E : XK) (t : TA) : TE := fun σ H Q => t σ H fun vs H1 => ∀ x dx, H1 x = none → H1 dx = none → dx ≠ x →
 sp (.ref x :: (vs ++ dvs)) (upd (upd H1 dx (.own x)) x (.ins C dx [])) (fun v H2 => v = .non ∧ Q (.ref x) H2) E
def Binds (K : Fg) (fd : FuncData) (ps : List Str) (ds : List Value) : Prop :=
 ∀ (s : Shared) (us : List Value), K.In s.heap → (us ++ ds).length = ps.length → BindsTo s fd ⟨us, []⟩ (ps.zip (us ++ ds))
theorem Binds.all {K : Fg} {fd : FuncData} {ps : List Str} (h : ∀ us : List Value, us.length = ps.length → bindArgs fd ⟨us, []⟩ = pure (ps.zip us)) : Binds K fd ps [] := fun s us _ hl => by
 rw [List.append_nil] at hl ⊢
 exact .of_eq (h us hl)
def QeA (CX : CXT) (X : Cx) (E : XK) : Prop := ∀ (pins : Pn) (σ : St) (H : Hp) (s : Shared) (e : Value) (s' : Shared), Inv X pins σ H s → CX X.stack H s E e s' → X.xe e s'
section
variable {X : Cx} {CX : CXT} {k : Nat} {f C : Addr} {fd : FuncData} {ps : List Str} {sp : Sp} {dvs : List V} {ds : List Value} {E : XK} {x m : Str} {p pos apos : Pos} {e o : Expr} {es : List Expr} {ta : TE} {t : TA}
theorem Qkh {pins : Pn} {σ : St} {H : Hp} {s : Shared} {Q : VK} {us : List Value} {vs : List V} (F : FnOk X.prog X.w X.K X.mg X.base CX k f fd ps sp) (hr : Room k X.A) (hb : Binds X.K fd ps ds) (hd : Vals dvs ds) (hx : QeA CX X E)
  (I : Inv X pins σ H s) (r : Vals vs us) (h : sp (vs ++ dvs) H Q E) : wpAny (model X.prog X.w) X.A (call (.ref f) us) (EP X pins σ Q) X.xe s := by
 have r2 : Vals (vs ++ dvs) (us ++ ds) := r.append hd
 have hl : (us ++ ds).length = ps.length := by rw [← r2.length]; exact F.len _ _ _ _ h
 refine wpAny_call (codeAny_mono (F.run X.A X.stack s H ⟨us, []⟩ (us ++ ds) (vs ++ dvs) Q E hr I.env0 (hb s us I.kIn hl) r2 h) fun r s' hq => ?_)
 cases r with
 | error e => exact hx pins σ H s e s' I hq
 | ok fl =>
  cases fl with
  | ret u => exact I.after hq
  | next => exact False.elim hq
  | brk => exact False.elim hq
  | cont => exact False.elim hq
theorem QgM (F : FnOk X.prog X.w X.K X.mg X.base CX k f fd ps sp) (hr : Room k X.A) (hg : Gl X x) (hm : X.mg x = some (.ref f)) (hk : PySem.W.keepIn X.K (.ref f) = true) (hb : Binds X.K fd ps ds) (hd : Vals dvs ds) (hx : QeA CX X E)
  (ha : PA X (e :: es) t) (hdb : (x == ("__debug__" : Str)) = false := by decide) (he : starEach (e :: es) X.env = (false, eval e X.env) :: starEach es X.env := by rfl) (hpl : (backTo pos (starEach es X.env)).any (·.1) = false := by rfl) :
  PE X (.Call (.Name x p) (e :: es) [] pos) (Qlp sp dvs E t) := by
 intro pins s σ H Q I h
 refine wpAny_Call_Name_kw (Qej I hg hm ?_ hdb)
 refine PySem.W.callWith_K (h₀ := X.base) I.ok.mod.kin hk (thn (ha pos pins s σ H _ I h) fun us s1 ⟨vs, H1, I1, r, q⟩ => ⟨I1.kIn, ?_⟩) he hpl
 exact Qkh F hr hb hd hx I1 r q
theorem Qif {pl : Sem Bool} (he : PE X o ta) (c : Cls X.K C) (hm : Meth X.K C m f) (F : FnOk X.prog X.w X.K X.mg X.base CX k f fd ps sp) (hr : Room k X.A) (hb : Binds X.K fd ps ds) (hd : Vals dvs ds) (hx : QeA CX X E) (ha : PA X (e :: es) t)
  (hst : starEach (e :: es) X.env = (false, eval e X.env) :: starEach es X.env := by rfl) (hpl : (backTo pos (starEach es X.env)).any (·.1) = false := by rfl)
  (ht : eval (.Call (.Attribute o m apos) (e :: es) [] pos) X.env = (do
   let ov ← eval o X.env
   standAt apos.atName
   let (f, first) ← holding [ov] (getMethod ov m pl)
   callWith pos f first (backTo pos (starEach (e :: es) X.env)) (backToKw pos (keywordEach [] X.env))) := by rfl) :
  PE X (.Call (.Attribute o m apos) (e :: es) [] pos) (Qjf C m sp dvs E ta t) := by
 intro pins s σ H Q I h
 refine PySem.W.methodCall_KW (pl := pl) (thn (he pins s σ H _ I h) fun u s1 ⟨x, H1, I1, rx, a, dx, fs, ex, ea, l, q⟩ => ?_) ht
 subst ex
 obtain rfl : u = Value.ref a := rx
 refine Qgu I1 ea c hm l ?_
 refine PySem.W.callWith_K (first := [.ref a]) (h₀ := X.base) I.ok.mod.kin hm.kp (thn (ha pos pins s1 σ H1 _ I1 q) fun us s2 ⟨vs, H2, I2, r, q2⟩ => ⟨I2.kIn, ?_⟩) hst hpl
 exact Qkh (us := .ref a :: us) (vs := .ref a :: vs) F hr hb hd hx I2 (.cons rfl r) q2
theorem Qlx {pl : Sem Bool} (he : PE X o ta) (c : Cls X.K C) (hm : Meth X.K C m f) (F : FnOk X.prog X.w X.K X.mg X.base CX k f fd ps sp) (hr : Room k X.A) (hb : Binds X.K fd ps ds) (hd : Vals dvs ds) (hx : QeA CX X E)
  (ht : eval (.Call (.Attribute o m apos) [] [] pos) X.env = (do
   let ov ← eval o X.env
   standAt apos.atName
   let (f, first) ← holding [ov] (getMethod ov m pl)
   callWith pos f first (backTo pos (starEach [] X.env)) (backToKw pos (keywordEach [] X.env))) := by rfl) :
  PE X (.Call (.Attribute o m apos) [] [] pos) (Qjf C m sp dvs E ta Qnc) := by
 intro pins s σ H Q I h
 refine PySem.W.methodCall_KW (pl := pl) (thn (he pins s σ H _ I h) fun u s1 ⟨x, H1, I1, rx, a, dx, fs, ex, ea, l, q⟩ => ?_) ht
 subst ex
 obtain rfl : u = Value.ref a := rx
 refine Qgu I1 ea c hm l ?_
 exact PySem.W.callWith_K0 (first := [.ref a]) I1.kIn hm.kp (Qkh (us := [.ref a]) (vs := [.ref a]) F hr hb hd hx I1 (.cons rfl .nil) q)
structure Mk (K : Fg) (C f : Addr) : Prop where
 makes : PySem.W.makesIn K C = true
 init : PySem.W.findIn K (.ref C) "__init__" = some (some (.ref f))
 fn : PySem.W.isFn K (.ref f) = true
 kp : PySem.W.keepIn K (.ref C) = true
theorem Qls {pins : Pn} {σ : St} {H : Hp} {s : Shared} {Q : VK} {us : List Value} {vs : List V} (M : Mk X.K C f) (F : FnOk X.prog X.w X.K X.mg X.base CX k f fd ps sp) (hr : Room (k + 1) X.A) (hb : Binds X.K fd ps ds) (hd : Vals dvs ds)
  (hx : QeA CX X E) (I : Inv X pins σ H s) (r : Vals vs us)
  (h : ∀ x dx, H x = none → H dx = none → dx ≠ x → sp (.ref x :: (vs ++ dvs)) (upd (upd H dx (.own x)) x (.ins C dx [])) (fun v H2 => v = .non ∧ Q (.ref x) H2) E) :
  wpAny (model X.prog X.w) X.A (call (.ref C) us) (EP X pins σ Q) X.xe s := by
 have hq := h (s.heap.objs.size + 1) s.heap.objs.size (I.hok.fresh (Nat.le_succ _)) (I.hok.fresh (Nat.le_refl _)) (Nat.ne_of_lt (Nat.lt_succ_self _))
 have I2 := Inv.made (C := C) I
 have r2 : Vals (V.ref (s.heap.objs.size + 1) :: (vs ++ dvs)) (Value.ref (s.heap.objs.size + 1) :: (us ++ ds)) := .cons rfl (r.append hd)
 have hl : (Value.ref (s.heap.objs.size + 1) :: us ++ ds).length = ps.length := by
  have e := r2.length
  rw [F.len _ _ _ _ hq] at e
  exact e.symm
 refine wpAny_call (QlI (f := f) I.kIn M.makes M.init (beq_iff_eq.mp M.fn) (codeAny_mono (F.run _ X.stack _ _ ⟨Value.ref (s.heap.objs.size + 1) :: us, []⟩ (Value.ref (s.heap.objs.size + 1) :: (us ++ ds)) _ _ E (hr.make C us [])
  (I2.env0.make C us []) (hb _ (Value.ref (s.heap.objs.size + 1) :: us) I2.kIn hl) r2 hq) fun r s' hq' => ?_))
 cases r with
 | error e => exact hx pins σ _ _ e s' I2 hq'
 | ok fl =>
  cases fl with
  | ret u =>
   obtain ⟨v, H', I3, rv, ev, q3⟩ := I2.after hq'
   subst ev
   exact ⟨rv, ⟨V.ref (s.heap.objs.size + 1), H', I3, rfl, q3⟩⟩
  | next => exact False.elim hq'
  | brk => exact False.elim hq'
  | cont => exact False.elim hq'
theorem Qks (M : Mk X.K C f) (F : FnOk X.prog X.w X.K X.mg X.base CX k f fd ps sp) (hr : Room (k + 1) X.A) (hg : Gl X x) (hm : X.mg x = some (.ref C)) (hb : Binds X.K fd ps ds) (hd : Vals dvs ds) (hx : QeA CX X E)
  (ha : PA X (e :: es) t) (hdb : (x == ("__debug__" : Str)) = false := by decide) (he : starEach (e :: es) X.env = (false, eval e X.env) :: starEach es X.env := by rfl) (hpl : (backTo pos (starEach es X.env)).any (·.1) = false := by rfl) :
  PE X (.Call (.Name x p) (e :: es) [] pos) (tMake C sp dvs E t) := by
 intro pins s σ H Q I h
 refine wpAny_Call_Name_kw (Qej I hg hm ?_ hdb)
 refine PySem.W.callWith_K (h₀ := X.base) I.ok.mod.kin M.kp (thn (ha pos pins s σ H _ I h) fun us s1 ⟨vs, H1, I1, r, q⟩ => ⟨I1.kIn, ?_⟩) he hpl
 exact Qls M F hr hb hd hx I1 r q
end
section
variable {X : Cx} {CX : CXT} {k : Nat} {f C : Addr} {fd : FuncData} {ps ks : List Str} {sp : Sp} {E : XK} {x m : Str} {p pos apos kpos : Pos} {e o : Expr} {es : List Expr} {kws : List Keyword} {te ta : TE} {t tk : TA} {nm : Option Str}
variable {g : List Value → List Value → List Value} {gV : List V → List V → List V}
end
structure Qm (N P : List Str) (sc : Scope) : Prop where
 kind : sc.kind = .function
 co : sc.isCoroutine = false
 gen : sc.isGenerator = false
 nd : N.Nodup
 pre : N.take P.length = P
 par : ∀ x ∈ P, sc.names.lookup x = some .local ∨ sc.names.lookup x = some .cell
 nofree : ∀ y ∈ sc.names, y.2 ≠ .free
theorem QhX {kindOf : Str → Option NameKind} {x : Str} : ∀ {binds : List (Str × Value)} {m : Str → Option Value}, (∀ v, (x, v) ∉ binds) → bindL kindOf binds m x = m x
 | [], _, _ => rfl
 | (n, v) :: r, m, h => by
  unfold bindL
  rw [QhX fun w hw => h w (List.mem_cons_of_mem _ hw)]
  split
  ·have : x ≠ n := by rintro rfl; exact h v List.mem_cons_self
   simp [this]
  ·rfl
theorem QhZ {kindOf : Str → Option NameKind} {x : Str} : ∀ {binds : List (Str × Value)} {m : Str → Option Value}, (∀ v, (x, v) ∉ binds) → bindC kindOf binds m x = m x
 | [], _, _ => rfl
 | (n, v) :: r, m, h => by
  unfold bindC
  rw [QhZ fun w hw => h w (List.mem_cons_of_mem _ hw)]
  split
  ·rfl
  ·have : x ≠ n := by rintro rfl; exact h v List.mem_cons_self
   simp [this]
theorem QhY {kindOf : Str → Option NameKind} {x : Str} {v : Value} : ∀ {P : List Str} {vs : List Value} {i : Nat} {m : Str → Option Value}, P.Nodup → P[i]? = some x → vs[i]? = some v → kindOf x = some .local →
  bindL kindOf (P.zip vs) m x = some v
 | [], _, _, _, _, h, _, _ => by simp at h
 | _ :: _, [], _, _, _, _, h, _ => by simp at h
 | p :: P, w :: vs, 0, m, nd, h1, h2, hk => by
  simp at h1 h2; subst h1; subst h2
  show bindL kindOf ((p, w) :: P.zip vs) m p = _
  unfold bindL
  rw [QhX fun v hv => (List.nodup_cons.mp nd).1 (List.of_mem_zip hv).1, if_pos hk]
  simp
 | p :: P, w :: vs, i + 1, m, nd, h1, h2, hk => by
  show bindL kindOf ((p, w) :: P.zip vs) m x = _
  unfold bindL
  exact QhY (i := i) (List.nodup_cons.mp nd).2 (by simpa using h1) (by simpa using h2) hk
theorem Qh0 {kindOf : Str → Option NameKind} {x : Str} {v : Value} : ∀ {P : List Str} {vs : List Value} {i : Nat} {m : Str → Option Value}, P.Nodup → P[i]? = some x → vs[i]? = some v → kindOf x ≠ some .local →
  bindC kindOf (P.zip vs) m x = some v
 | [], _, _, _, _, h, _, _ => by simp at h
 | _ :: _, [], _, _, _, _, h, _ => by simp at h
 | p :: P, w :: vs, 0, m, nd, h1, h2, hk => by
  simp at h1 h2; subst h1; subst h2
  show bindC kindOf ((p, w) :: P.zip vs) m p = _
  unfold bindC
  rw [QhZ fun v hv => (List.nodup_cons.mp nd).1 (List.of_mem_zip hv).1, if_neg hk]
  simp
 | p :: P, w :: vs, i + 1, m, nd, h1, h2, hk => by
  show bindC kindOf ((p, w) :: P.zip vs) m x = _
  unfold bindC
  exact Qh0 (i := i) (List.nodup_cons.mp nd).2 (by simpa using h1) (by simpa using h2) hk
def start (N : List Str) (vs : List V) : St := vs.map some ++ List.replicate (N.length - vs.length) none
def Qli (CX : CXT) (P : Program) (w : World) (K : Fg) (mg : Str → Option Value) (base : Heap) (N : List Str) (qual : Str) (scope : Scope) (f : Addr) (cd : Value) (A : Around) (outer : List Env) (s : Shared) (H : Hp) (E : XK) : Cx where
 prog := P
 w := w
 K := K
 mg := mg
 base := base
 A := A.deeper (envOfC qual scope s.heap.objs.size f cd)
 N := N
 s₀ := s
 H₀ := H
 env := envOfC qual scope s.heap.objs.size f cd
 outer := outer
 stack := envOfC qual scope s.heap.objs.size f cd :: outer
 ex := []
 calm := true
 fn := fun _ => true
 pn := []
 xe := fun e s' => wpAny (model P w) (A.deeper (envOfC qual scope s.heap.objs.size f cd)) (leaving (envOfC qual scope s.heap.objs.size f cd) e) (fun _ s'' => CX outer H s E e s'') (fun e' s'' => CX outer H s E e' s'') s'
theorem Qi6 {sc : Scope} {n : Nat} {x : Str} (h : sc.names.lookup x = some .cell) : ∃ c, (cellsFrom n sc.names []).lookup x = some c := by
 have q := PySem.W.cellsFrom_some sc.names n [] (.inl h)
 exact Option.isSome_iff_exists.mp q
theorem QkQ {CX : CXT} {P : Program} {w : World} {K : Fg} {mg : Str → Option Value} {base : Heap} {N ps : List Str} {qual : Str} {scope : Scope} {f : Addr} {cd : Value} {A : Around} {outer : List Env} {s s1 : Shared} {H : Hp} {E : XK} {us : List Value} {vs : List V}
  (S : Qm N ps scope) (hd : A.handled = none) (e0 : Env0 P w K mg base A outer s H) (hl : vs.length = ps.length) (r : Vals vs us)
  (x : InCallC s s.heap.objs.size (bindL (envOfC qual scope s.heap.objs.size f cd).kindOf (ps.zip us) fun _ => none) (cellsFrom (s.heap.objs.size + 1) scope.names []) (bindC (envOfC qual scope s.heap.objs.size f cd).kindOf (ps.zip us) fun _ => none) s1) :
  Inv (Qli CX P w K mg base N qual scope f cd A outer s H E) [] (start N vs) H s1 := by
 have hpl : ps.length ≤ N.length := by have := congrArg List.length S.pre; rw [List.length_take] at this; omega
 obtain ⟨h1, tk, rfl, hk⟩ := x.done
 have noA : ∀ b : Addr, b ∉ (Qli CX P w K mg base N qual scope f cd A outer s H E).ex := fun b z => absurd (show b ∈ ([] : List Addr) from z) (by simp)
 refine ⟨⟨e0.mod, S.kind, rfl, rfl, Nat.le_refl _, fun y z c h1 h2 => ?_, fun y hy => ?_, fun y c _ h => ?_, fun _ => hd, Around.frames_deeper e0.frames, .inr ⟨rfl, rfl⟩, fun b z => absurd z (noA b), e0.bs, e0.bsz, fun b _ _ => noA b, fun b z => absurd z (noA b), e0.funs, e0.frf⟩,
  rfl, e0.bare, Un.kept hk, ⟨_, x.toInCall.ns, fun i y v h1 h2 h3 => ?_⟩, fun y c h => ⟨_, x.cell y c h⟩, e0.hok.fresh (Nat.le_refl _), fun y c h => ?_, fun p hp => absurd (show p ∈ ([] : Pn) from hp) (by simp), e0.hok.kept hk, ?_⟩
 ·exact name_of_addr x.apart (PySem.mem_of_lookup h1) (PySem.mem_of_lookup h2)
 ·have hy : scope.names.lookup y = some .cell ∨ scope.names.lookup y = some .free := hy
  rcases hy with hy | hy
  ·exact Qi6 hy
  ·exact absurd rfl (S.nofree _ (PySem.mem_of_lookup hy))
 ·exact Nat.le_of_lt (x.above y c (PySem.mem_of_lookup h))
 ·have hi : i < vs.length := by
   unfold start at h2
   by_cases hi : i < vs.length
   ·exact hi
   ·rw [List.getElem?_append_right (by simpa using hi)] at h2
    rw [List.getElem?_replicate] at h2
    split at h2 <;> cases h2
  have ha : vs[i]? = some v := by
   unfold start at h2
   rw [List.getElem?_append_left (by simpa using hi), List.getElem?_map] at h2
   cases e : vs[i]? with
   | none => rw [e] at h2; cases h2
   | some a => rw [e] at h2; cases h2; rfl
  obtain ⟨u, hu, rv⟩ := r.get ha
  have hp : ps[i]? = some y := by
   rw [← S.pre, List.getElem?_take_of_lt (by omega)]; exact h1
  have ndP : ps.Nodup := by rw [← S.pre]; exact S.nd.sublist (List.take_sublist _ _)
  refine ⟨u, rv, ?_⟩
  rcases S.par y (List.mem_of_getElem? hp) with k | k
  ·exact .inl ⟨k, QhY ndP hp hu k⟩
  ·obtain ⟨c, e⟩ := Qi6 (n := s.heap.objs.size + 1) k
   refine .inr ⟨.inl k, c, e, ?_⟩
   have q := x.cell y c e
   rw [Qh0 ndP hp hu (by show scope.names.lookup y ≠ _; rw [k]; decide)] at q
   exact q
 ·exact e0.hok.fresh (Nat.le_of_lt (x.above y c (PySem.mem_of_lookup h)))
 ·unfold start
  show _ = N.length
  rw [List.length_append, List.length_map, List.length_replicate]
  omega
theorem QlQ {CX : CXT} {P : Program} {w : World} {K : Fg} {mg : Str → Option Value} {base : Heap} {k : Nat} {f : Addr} {name qual : Str} {params : Arguments} {body : List Stmt} {scope : Scope} {dV kV doc pm cdv ct oc : Value} {an od : Option Addr}
  {osl : Array (Option Value)} {N ps : List Str} {sp : Sp} (lk : K.lookup f = some ⟨oc, od, .func (PySem.W.fnOf name qual params body scope dV kV doc pm an cdv ct), osl⟩) (hcd : PySem.W.codeIn K cdv qual = true) (S : Qm N ps scope)
  (len : ∀ vs H Q E, sp vs H Q E → vs.length = ps.length)
  (hbody : ∀ (A : Around) (outer : List Env) (s : Shared) (H : Hp) (vs : List V) (Q : VK) (E : XK), Room k (A.deeper (envOfC qual scope s.heap.objs.size f cdv)) → sp vs H Q E →
   ∃ t, PSs (Qli CX P w K mg base N qual scope f cdv A outer s H E) body t ∧ t { nx := fun _ H' => Q .non H', rt := Q } (start N vs) H) :
  FnOk P w K mg base CX (k + 1) f (PySem.W.fnOf name qual params body scope dV kV doc pm an cdv ct) ps sp := by
 refine ⟨len, fun A outer s H args us vs Q E hr e0 hb r hsp => ?_⟩
 have hl := len _ _ _ _ hsp
 have KX : K.In s.heap := e0.mod.kin.keeps fun b o e => (e0.bs b o e).1
 have lim : s.heap.NoLimit := e0.mod.nolimit.keeps fun b o e => (e0.bs b o e).1
 have hkind : ∀ y ∈ ps.zip us, scope.names.lookup y.1 = some .local ∨ (scope.names.lookup y.1 = some .cell ∧ ((cellsFrom (s.heap.objs.size + 1) scope.names []).lookup y.1).isSome = true) := fun ⟨n, v⟩ hy => by
  rcases S.par n (List.of_mem_zip hy).1 with q | q
  ·exact .inl q
  ·exact .inr ⟨q, PySem.W.cellsFrom_some _ _ _ (.inl q)⟩
 refine codeAny_call_function hr.depth (KX _ _ lk) rfl S.co S.gen rfl (PySem.W.codeRec_of KX hcd) (hb _ _ _ _ ?_)
 refine wpAny_newFunctionEnv_cells S.kind hkind fun env he s1 x => ?_
 subst he
 refine ⟨lim.keeps x.toInCall.keep, codeAny_func ?_⟩
 obtain ⟨t, ht, hq⟩ := hbody A outer s H vs Q E (hr.deeper _) hsp
 have I : Inv (Qli CX P w K mg base N qual scope f cdv A outer s H E) [] (start N vs) H s1 := QkQ S hr.hd e0 hl r x
 refine wpAny_mono (ht [] s1 (start N vs) H _ I hq) (fun fl s' hs => ?_) fun e s' hs => hs
 have fin : ∀ {σ' : St} {H' : Hp} {v : V} {u : Value}, Inv (Qli CX P w K mg base N qual scope f cdv A outer s H E) [] σ' H' s' → RelV v u → Q v H' → CE outer P w H s Q u s' :=
  fun {σ' H' v u} J rv q => ⟨v, H', J.os, J.bare, J.base, J.hok, rv, q⟩
 cases fl with
 | ret u =>
  obtain ⟨v, σ', H', J, rv, q⟩ := hs
  exact fin J rv q
 | next =>
  obtain ⟨σ', H', J, q⟩ := hs
  exact fin (v := V.non) (u := Value.none) J rfl q
 | brk =>
  obtain ⟨_, _, _, q⟩ := hs
  exact False.elim q
 | cont =>
  obtain ⟨_, _, _, q⟩ := hs
  exact False.elim q
end L2
namespace L2
open PySem PySem.Spec PyProof.Rows
section
variable {X : Cx} {x : Str} {p pos : Pos} {e : Expr} {es : List Expr} {t : TA} {id T : String} {r : List V → Hp → VK → Prop}
def tCB (r : List V → Hp → VK → Prop) (t : TA) : TE := fun σ H Q => t σ H fun vs H1 => r vs H1 Q
theorem Qo (hc : QfU X (.builtin id) r) (hg : Gl X x) (hm : X.mg x = none) (hv : bootBuiltins x = some (.builtin id)) (ha : PA X (e :: es) t) (hn : x ≠ "__name__" := by decide) (hdb : (x == ("__debug__" : Str)) = false := by decide)
  (he : starEach (e :: es) X.env = (false, eval e X.env) :: starEach es X.env := by rfl) (hpl : (backTo pos (starEach es X.env)).any (·.1) = false := by rfl) : PE X (.Call (.Name x p) (e :: es) [] pos) (tCB r t) := by
 intro pins s σ H Q I h
 refine wpAny_Call_Name_kw (QfJ I hg hm hv ?_ hn hdb)
 exact PyProof.Rows.callWith_builtin1 (thn (ha pos pins s σ H _ I h) fun us s1 ⟨vs, H1, I1, r1, q1⟩ => hc pins s1 σ H1 vs us Q I1 r1 q1) he hpl
theorem QdJ (hc : QfU X (.type T) r) (hg : Gl X x) (hm : X.mg x = none) (hv : bootBuiltins x = some (.type T)) (ha : PA X (e :: es) t) (hn : x ≠ "__name__" := by decide) (hdb : (x == ("__debug__" : Str)) = false := by decide)
  (he : starEach (e :: es) X.env = (false, eval e X.env) :: starEach es X.env := by rfl) (hpl : (backTo pos (starEach es X.env)).any (·.1) = false := by rfl) : PE X (.Call (.Name x p) (e :: es) [] pos) (tCB r t) := by
 intro pins s σ H Q I h
 refine wpAny_Call_Name_kw (QfJ I hg hm hv ?_ hn hdb)
 exact PyProof.Rows.callWith_type1 (thn (ha pos pins s σ H _ I h) fun us s1 ⟨vs, H1, I1, r1, q1⟩ => hc pins s1 σ H1 vs us Q I1 r1 q1) he hpl
end
end L2
namespace HT
open PySem PyProof.Rows
section
open PySem.SeqAt
open PySem.AutoSeq1 (wpAny_loadPart')
open PySem.MeetsSeq PySem.MeetsSeq2 PySem.MeetsSeq3
end
section
variable {prog : Program} {w : World} {A : Around} {E : Value → Shared → Prop} {s : Shared}
end
end HT
namespace L2
open PySem PySem.Spec PyProof.Rows
abbrev TO := St → Hp → (Option Int → Hp → Prop) → Prop
theorem Qju {ns : List Int} : ∀ {us : List Value}, Vals (ns.map V.int) us → IntsAre us ns := by
 induction ns with
 | nil => intro us r; rw [List.map_nil] at r; cases r; exact .nil
 | cons n ns ih =>
  intro us r
  rw [List.map_cons] at r
  cases r with
  | cons r1 r2 =>
   obtain ⟨t, e⟩ := r1
   subst e
   exact .cons n t (ih r2)
section
variable {X : Cx} {e : Expr} {te : TE} {lo hi : Option Expr} {tl th : TO} {pos p2 : Pos}
def SlR (X : Cx) (r : V → Option Int → Option Int → Hp → VK → Prop) : Prop :=
 ∀ (pins : Pn) (s : Shared) (σ : St) (H : Hp) (x : V) (v vl vu : Value) (lo hi : Option Int) (sl : Addr) (Q : VK), Inv X pins σ H s → RelV x v → s.heap.IsSliceOf sl vl vu .none → IsPart vl lo → IsPart vu hi → r x lo hi H Q →
  ∃ T id, typeLookup (.type T) "__getitem__" = pure (some (.builtin id)) ∧ s.TypeIs v T ∧ wpAny (model X.prog X.w) X.A (getItem v (.ref sl)) (EP X pins σ Q) X.xe s
end
end L2
namespace L2
open PySem PySem.Spec PyProof.Rows
def ixN (n : Nat) (i : Int) : Option Nat := if 0 ≤ i then (if i < n then some i.toNat else none) else if -(n : Int) ≤ i then some (i + n).toNat else none
def atI {α : Type} (xs : List α) (i : Int) : Option α := (ixN xs.length i).bind fun j => xs[j]?
theorem QkM {n : Nat} {i : Int} {j : Nat} (h : ixN n i = some j) : seqIndex? i n = some j ∧ j < n ∧ -(n : Int) ≤ i ∧ i < n := by
 unfold ixN at h
 by_cases h0 : 0 ≤ i
 ·rw [if_pos h0] at h
  by_cases h1 : i < n
  ·rw [if_pos h1] at h
   have e : i.toNat = j := Option.some.inj h
   exact ⟨by rw [seqIndex_of h0 h1, e], by omega, by omega, h1⟩
  ·rw [if_neg h1] at h; cases h
 ·rw [if_neg h0] at h
  by_cases h1 : -(n : Int) ≤ i
  ·rw [if_pos h1] at h
   have e : (i + n).toNat = j := Option.some.inj h
   exact ⟨by rw [seqIndex_neg (by omega) h1, e], by omega, h1, by omega⟩
  ·rw [if_neg h1] at h; cases h
theorem Qld {α : Type} {xs : List α} {i : Int} {v : α} (h : atI xs i = some v) : ∃ j, seqIndex? i xs.length = some j ∧ xs[j]? = some v ∧ j < xs.length ∧ -(xs.length : Int) ≤ i ∧ i < xs.length := by
 unfold atI at h
 cases e : ixN xs.length i with
 | none => rw [e] at h; cases h
 | some j =>
  rw [e] at h
  obtain ⟨h1, h2, h3, h4⟩ := QkM e
  exact ⟨j, h1, h, h2, h3, h4⟩
theorem QZ {α : Type} {xs : List α} {j : Nat} {v : α} (h : xs[j]? = some v) : atI xs (j : Int) = some v := by
 have hj : j < xs.length := (List.getElem?_eq_some_iff.mp h).1
 have e : ixN xs.length (j : Int) = some j := by
  unfold ixN
  rw [if_pos (by omega), if_pos (by omega)]; simp
 unfold atI; rw [e]; exact h
def Qna (b : Expr) : Prop := ∀ o i, subscripted b false o i = operate [o, i] (getItem o i)
def IxR (X : Cx) (r : R2) : Prop :=
 ∀ (value slice : Expr) (pins : Pn) (s : Shared) (σ : St) (H : Hp) (x y : V) (v u : Value) (Q : VK), Inv X pins σ H s → RelV x v → RelV y u → r x y H Q →
  subscripted slice false v u = operate [v, u] (getItem v u) → wpAny (model X.prog X.w) X.A (subscriptTail value slice v u) (EP X pins σ Q) X.xe s
def MtR (X : Cx) (id : String) (r : V → List V → Hp → VK → Prop) : Prop :=
 ∀ (pins : Pn) (s : Shared) (σ : St) (H : Hp) (x : V) (xs : List V) (v : Value) (us : List Value) (Q : VK), Inv X pins σ H s → RelV x v → Vals xs us → r x xs H Q →
  wpAny (model X.prog X.w) X.A (call (.builtin id) (v :: us)) (EP X pins σ Q) X.xe s
section
variable {X : Cx} {a b : Expr} {ta tb : TE} {pos : Pos}
theorem Zf {r : R2} (hr : IxR X r) (ha : PE X a ta) (hb : PE X b tb) (hs : Qna b) : PE X (.Subscript a b pos) (tOp r ta tb) := by
 intro pins s σ H Q I h
 exact Subscript_ (binT ha hb I h fun v u s2 x y H2 I2 rx ry q => hr a b pins s2 σ H2 x y v u Q I2 rx ry q (hs _ _))
def rIxL (K : Fg) : R2 := fun x y H Q => ∃ p xs i v, x = .ref p ∧ y = .int i ∧ SqL K H p xs ∧ atI xs i = some v ∧ Q v H
def rIxT (K : Fg) : R2 := fun x y H Q => ∃ p xs i v, x = .ref p ∧ y = .int i ∧ SqT K H p xs ∧ atI xs i = some v ∧ Q v H
theorem QN : IxR X (rIxL X.K) := by
 intro value slice pins s σ H x y v u Q I rx ry h hs
 obtain ⟨p, xs, i, z, rfl, rfl, hq, he, q⟩ := h
 cases rx
 obtain ⟨t, rfl⟩ := ry
 obtain ⟨its, r, pl, hz⟩ := I.list hq
 obtain ⟨j, h1, h2, h3, h4, h5⟩ := Qld he
 obtain ⟨w, ew, rw'⟩ := r.get h2
 have hl := r.length
 have hn := Qi0
 have fin : EP X pins σ Q w s := ⟨z, H, I, rw', q⟩
 by_cases h0 : 0 ≤ i
 ·have hj : i.toNat = j := by
   rw [seqIndex_of h0 h5] at h1
   exact Option.some.inj h1
  exact item_listR pl.isList h0 (by omega) (by rw [hj]; simpa using ew) fin hs
 ·have hj : (i + (its.toArray.size : Int)).toNat = j := by
   rw [seqIndex_neg (by omega) h4] at h1
   rw [List.size_toArray, ← hl]
   exact Option.some.inj h1
  exact subscriptTail_builtinR (x := w) pl.isList.typeIs slot_list_getitem.lookup
   (wpAny_getItem_list_neg (Q := fun r s' => r = w ∧ EP X pins σ Q r s') pl.isList (by omega) (by rw [List.size_toArray] <;> omega) (by omega) (by rw [hj]; simpa using ew) ⟨rfl, fin⟩) hs
theorem Qbp : IxR X (rIxT X.K) := by
 intro value slice pins s σ H x y v u Q I rx ry h hs
 obtain ⟨p, xs, i, z, rfl, rfl, hq, he, q⟩ := h
 cases rx
 obtain ⟨t, rfl⟩ := ry
 obtain ⟨its, r, pl, hz⟩ := I.tuple hq
 obtain ⟨j, h1, h2, h3, h4, h5⟩ := Qld he
 obtain ⟨w, ew, rw'⟩ := r.get h2
 have hl := r.length
 have hn := Qi0
 have fin : EP X pins σ Q w s := ⟨z, H, I, rw', q⟩
 exact subscriptTail_builtinR (x := w) pl.typeIs slot_tuple_getitem.lookup
  (getItem_tuple (j := j) (Q := fun r s' => r = w ∧ EP X pins σ Q r s') pl (by omega) (by omega) (by rw [List.size_toArray, ← hl]; exact h1) (by simpa using ew) ⟨rfl, fin⟩) hs
theorem Qjq (its : List Value) (n j : Nat) (u : Value) : Obj.mapSeq (·.setIfInBounds j u) { cls := .type "list", data := .seq its.toArray n } = { cls := .type "list", data := .seq (its.set j u).toArray n } := by
 simp [Obj.mapSeq]
theorem Inv.lst {pins : Pn} {σ : St} {H : Hp} {s : Shared} {p : Addr} {xs : List V} (I : Inv X pins σ H s) (h : H p = some (.lst xs)) :
  ∃ (its : List Value) (n : Nat), Vals xs its ∧ s.heap.get? p = some { cls := .type "list", data := .seq its.toArray n } ∧ xs.length ≤ sizeLine := by
 obtain ⟨z, its, n, r, e⟩ := I.hok p _ h
 exact ⟨its, n, r, e, z⟩
theorem Inv.lstUpd {pins : Pn} {σ : St} {H : Hp} {s : Shared} {p : Addr} {xs ys : List V} {its its' : List Value} {n n' : Nat} {f : Obj → Obj} (I : Inv X pins σ H s) (h : H p = some (.lst xs))
  (ho : s.heap.get? p = some { cls := .type "list", data := .seq its.toArray n }) (hf : f { cls := .type "list", data := .seq its.toArray n } = { cls := .type "list", data := .seq its'.toArray n' }) (r : Vals ys its') (hz : ys.length ≤ sizeLine) (t : Nat) :
  Inv X pins σ (upd H p (.lst ys)) { s with heap := s.heap.update p f, toks := t } := by
 have e : (s.heap.update p f).get? p = some { cls := .type "list", data := .seq its'.toArray n' } := by
  rw [Heap.get?_update_self f ho (by rw [hf] <;> rfl), hf]
 refine I.write (x := p) (e := p) (by rw [h]; trivial) (.inl rfl) (fun b u hb q => (Heap.get?_update_other _ _ (Ne.symm hb)).trans q) ⟨_, e⟩ ?_
 exact ⟨hz, its', n', r, e⟩
def rSetL : V → V → V → Hp → (Hp → Prop) → Prop := fun o i v H Q => ∃ p xs k j, o = .ref p ∧ i = .int k ∧ H p = some (.lst xs) ∧ ixN xs.length k = some j ∧ Q (upd H p (.lst (xs.set j v)))
theorem QgG : PSet X rSetL := by
 intro pins s σ H o i v ov iv u Q I ro ri rv h
 obtain ⟨p, xs, k, j, rfl, rfl, hp, hj, q⟩ := h
 cases ro
 obtain ⟨t, rfl⟩ := ri
 obtain ⟨its, n, r, ho, hz⟩ := I.lst hp
 obtain ⟨h1, h2, h3, h4⟩ := QkM hj
 have hl := r.length
 have hn := Qi0
 have I' : Inv X pins σ (upd H p (.lst (xs.set j v))) { s with heap := s.heap.update p (Obj.mapSeq (·.setIfInBounds j u)) } :=
  I.lstUpd hp ho (Qjq its n j u) (r.set rv j) (by rw [List.length_set]; exact hz) s.toks
 by_cases h0 : 0 ≤ k
 ·have hk : k.toNat = j := by
   rw [seqIndex_of h0 h4] at h1
   exact Option.some.inj h1
  exact PySem.W.ki_setAt ho h0 (by omega) (by rw [List.size_toArray, ← hl]; exact h4) (by rw [hk]; exact ⟨_, I', q⟩)
 ·have hk : (k + (its.toArray.size : Int)).toNat = j := by
   rw [seqIndex_neg (by omega) h3] at h1
   rw [List.size_toArray, ← hl]
   exact Option.some.inj h1
  exact PySem.W.ki_setBack ho (by omega) (by rw [List.size_toArray, ← hl]; exact h3) (by omega) (by rw [hk]; exact ⟨_, I', q⟩)
def QcK : V → Bool
 | .non => true
 | .bl _ => true
 | .int _ => true
 | .str _ => true
 | _ => false
def eqV : V → V → Bool
 | .non, .non => true
 | .bl a, .bl b => a == b
 | .bl a, .int b => (if a then 1 else 0) == b
 | .int a, .bl b => a == (if b then 1 else 0)
 | .int a, .int b => a == b
 | .str a, .str b => a == b
 | _, _ => false
theorem Qk0 {A : Around} {s : Shared} {y x : V} {u v : Value} (ry : RelV y u) (rx : RelV x v) (fy : QcK y = true) (fx : QcK x = true) : SeqAt.EqAt A s u v (eqV y x) := by
 cases y with
 | non =>
  cases ry
  cases x with
  | non => cases rx; exact SeqAt.EqAt.same _
  | bl b => cases rx; exact SeqAt.EqAt.none_bool b
  | int b => obtain ⟨t, rfl⟩ := rx; exact SeqAt.EqAt.none_int b t
  | str b => obtain ⟨t, rfl⟩ := rx; exact SeqAt.EqAt.none_str b t
  | _ => exact absurd (show false = true from fx) Bool.false_ne_true
 | bl a =>
  cases ry
  cases x with
  | non => cases rx; exact SeqAt.EqAt.bool_none a
  | bl b => cases rx; exact SeqAt.EqAt.bool_bool a b
  | int b => obtain ⟨t, rfl⟩ := rx; exact SeqAt.EqAt.bool_int a b t
  | str b => obtain ⟨t, rfl⟩ := rx; exact SeqAt.EqAt.bool_str a b t
  | _ => exact absurd (show false = true from fx) Bool.false_ne_true
 | int a =>
  obtain ⟨t', rfl⟩ := ry
  cases x with
  | non => cases rx; exact SeqAt.EqAt.int_none a t'
  | bl b => cases rx; exact SeqAt.EqAt.int_bool a t' b
  | int b => obtain ⟨t, rfl⟩ := rx; exact SeqAt.EqAt.int_int a t' b t
  | str b => obtain ⟨t, rfl⟩ := rx; exact SeqAt.EqAt.int_str a t' b t
  | _ => exact absurd (show false = true from fx) Bool.false_ne_true
 | str a =>
  obtain ⟨t', rfl⟩ := ry
  cases x with
  | non => cases rx; exact SeqAt.EqAt.str_none a t'
  | bl b => cases rx; exact SeqAt.EqAt.str_bool a t' b
  | int b => obtain ⟨t, rfl⟩ := rx; exact SeqAt.EqAt.str_int a t' b t
  | str b => obtain ⟨t, rfl⟩ := rx; exact SeqAt.EqAt.str_str a t' b t
  | _ => exact absurd (show false = true from fx) Bool.false_ne_true
 | _ => exact absurd (show false = true from fy) Bool.false_ne_true
def eqU (x : V) (u : Value) : Bool := match u with
 | .none => eqV .non x
 | .bool b => eqV (.bl b) x
 | .int i _ => eqV (.int i) x
 | .str z _ => eqV (.str z) x
 | _ => false
theorem Qmq {x y : V} {u : Value} (r : RelV y u) (f : QcK y = true) : eqU x u = eqV y x := by
 cases y with
 | non => cases r; rfl
 | bl b => cases r; rfl
 | int i => obtain ⟨t, rfl⟩ := r; rfl
 | str z => obtain ⟨t, rfl⟩ := r; rfl
 | _ => exact absurd (show false = true from f) Bool.false_ne_true
theorem QfT {x : V} : ∀ {xs : List V} {us : List Value}, Vals xs us → xs.all QcK = true → us.any (eqU x) = xs.any fun y => eqV y x
 | _, _, .nil, _ => rfl
 | y :: xs, u :: us, .cons r t, f => by
  rw [List.all_cons, Bool.and_eq_true] at f
  rw [List.any_cons, List.any_cons, Qmq r f.1, QfT t f.2]
theorem QdU {A : Around} {s : Shared} {x : V} {v : Value} (rx : RelV x v) (fx : QcK x = true) : ∀ {xs : List V} {us : List Value}, Vals xs us → xs.all QcK = true → ∀ u ∈ us, SeqAt.EqAt A s u v (eqU x u)
 | _, _, .nil, _ => fun u hu => by cases hu
 | y :: xs, u :: us, .cons r t, f => fun u' hu => by
  rw [List.all_cons, Bool.and_eq_true] at f
  rcases List.mem_cons.mp hu with rfl | hu
  ·rw [Qmq r f.1]; exact Qk0 r rx f.1 fx
  ·exact QdU rx fx t f.2 u' hu
def inV (x : V) (xs : List V) : Bool := xs.any fun y => eqV y x
def rIn (K : Fg) (neg : Bool) : R2 := fun x y H Q => ∃ p xs, y = .ref p ∧ (SqL K H p xs ∨ SqT K H p xs) ∧ QcK x = true ∧ xs.all QcK = true ∧ Q (.bl (if neg then !inV x xs else inV x xs)) H
theorem Qkx : OpR X (compareOp .In) (rIn X.K false) := by
 intro pins s σ H x y v u Q I rx ry h
 obtain ⟨p, xs, rfl, hq, fx, fs, q⟩ := h
 cases ry
 rcases hq with hq | hq
 ·obtain ⟨its, r, pl, hz⟩ := I.list hq
  refine SeqAt.in_listAt (eqU x) pl.isList (fun w hw => QdU rx fx r fs w (by simpa using hw)) ⟨.bl _, H, I, rfl, ?_⟩
  rw [show its.toArray.any (eqU x) = its.any (eqU x) by simp, QfT r fs]
  exact q
 ·obtain ⟨its, r, pl, hz⟩ := I.tuple hq
  refine SeqAt.in_tupleAt (eqU x) pl (fun w hw => QdU rx fx r fs w (by simpa using hw)) ⟨.bl _, H, I, rfl, ?_⟩
  rw [show its.toArray.any (eqU x) = its.any (eqU x) by simp, QfT r fs]
  exact q
theorem Qbo : OpR X (compareOp .NotIn) (rIn X.K true) := by
 intro pins s σ H x y v u Q I rx ry h
 obtain ⟨p, xs, rfl, hq, fx, fs, q⟩ := h
 cases ry
 rcases hq with hq | hq
 ·obtain ⟨its, r, pl, hz⟩ := I.list hq
  refine SeqAt.notIn_listAt (eqU x) pl.isList (fun w hw => QdU rx fx r fs w (by simpa using hw)) ⟨.bl _, H, I, rfl, ?_⟩
  rw [show its.toArray.any (eqU x) = its.any (eqU x) by simp, QfT r fs]
  exact q
 ·obtain ⟨its, r, pl, hz⟩ := I.tuple hq
  refine SeqAt.notIn_tupleAt (eqU x) pl (fun w hw => QdU rx fx r fs w (by simpa using hw)) ⟨.bl _, H, I, rfl, ?_⟩
  rw [show its.toArray.any (eqU x) = its.any (eqU x) by simp, QfT r fs]
  exact q
theorem Qs : QfU X (.builtin "len") (fun xs H Q => ∃ p ys, xs = [.ref p] ∧ (SqL X.K H p ys ∨ SqT X.K H p ys) ∧ Q (.int ys.length) H) := by
 intro pins s σ H xs us Q I r h
 obtain ⟨p, ys, rfl, hq, q⟩ := h
 obtain ⟨u, rfl, rx⟩ := Qhj r
 cases rx
 have hn := Qi0
 rcases hq with hq | hq
 ·obtain ⟨its, r', pl, hz⟩ := I.list hq
  have hlen := r'.length
  exact Calls.call_len_list pl.isList (by simp only [List.size_toArray] <;> omega) ⟨.int ys.length, H, I.tok _, ⟨s.toks + 1, by rw [List.size_toArray, hlen]⟩, q⟩
 ·obtain ⟨its, r', pl, hz⟩ := I.tuple hq
  have hlen := r'.length
  exact len_tuple pl (by simp only [List.size_toArray] <;> omega) ⟨.int ys.length, H, I.tok _, ⟨s.toks + 1, by rw [List.size_toArray, hlen]⟩, q⟩
theorem Qez : QfU X (.type "list") (fun xs H Q => ∃ p ys, xs = [.ref p] ∧ (SqL X.K H p ys ∨ SqT X.K H p ys) ∧ ∀ l, H l = none → Q (.ref l) (upd H l (.lst ys))) := by
 intro pins s σ H xs us Q I r h
 obtain ⟨p, ys, rfl, hq, q⟩ := h
 obtain ⟨u, rfl, rx⟩ := Qhj r
 cases rx
 have fin : ∀ (its : List Value), Vals ys its → ys.length ≤ sizeLine → ∀ (h' : Heap) (c' : Nat), (∀ b o', s.heap.get? b = some o' → h'.get? b = some o') →
   h'.get? s.heap.objs.size = some { cls := .type "list", dict := none, data := .seq its.toArray c', slots := #[] } → EP X pins σ Q (.ref s.heap.objs.size) { s with heap := h' } := fun its r' hz h' c' kp e =>
  ⟨.ref s.heap.objs.size, _, I.laid (t' := s.toks) kp (Nat.le_refl _) (show ObjOk X.prog X.w _ h' _ (.lst ys) from ⟨hz, its, c', r', e⟩), rfl, q _ (I.hok.fresh (Nat.le_refl _))⟩
 rcases hq with hq | hq
 ·obtain ⟨its, r', pl, hz⟩ := I.list hq
  have hlen := r'.length
  obtain ⟨o, ho, hc, n, hd⟩ := pl.isList
  exact call_list_seq p (.inl rfl) ho hc hd (fun h' c' kp e => fin its r' hz h' c' kp e) (by simp only [List.size_toArray] <;> omega)
 ·obtain ⟨its, r', pl, hz⟩ := I.tuple hq
  have hlen := r'.length
  obtain ⟨o, ho, hc, n, hd⟩ := pl
  exact call_list_seq p (.inr rfl) ho hc hd (fun h' c' kp e => fin its r' hz h' c' kp e) (by simp only [List.size_toArray] <;> omega)
theorem Qg8 : QfU X (.type "tuple") (fun xs H Q => ∃ p ys, xs = [.ref p] ∧ ((SqL X.K H p ys ∧ ∀ l, H l = none → Q (.ref l) (upd H l (.tup ys))) ∨ (SqT X.K H p ys ∧ Q (.ref p) H))) := by
 intro pins s σ H xs us Q I r h
 obtain ⟨p, ys, rfl, h⟩ := h
 obtain ⟨u, rfl, rx⟩ := Qhj r
 cases rx
 rcases h with ⟨hq, q⟩ | ⟨hq, q⟩
 ·obtain ⟨its, r', pl, hz⟩ := I.list hq
  have hlen := r'.length
  refine call_tuple_list pl.isList (fun h' kp => ?_) (by simp only [List.size_toArray] <;> omega)
  have I1 : Inv X pins σ H { s with heap := h' } := I.kept (t' := s.toks) kp
  have I2 : Inv X pins σ (upd H h'.objs.size (.tup ys)) { s with heap := h'.push { cls := .type "tuple", data := .seq its.toArray } } :=
   I1.laid (t' := s.toks) (fun b o e => Heap.get?_push_of_some _ e) (Nat.le_refl _) (show ObjOk X.prog X.w _ _ _ (.tup ys) from ⟨hz, its, r', IsTup.new _ _⟩)
  exact ⟨.ref h'.objs.size, _, I2, rfl, q _ (I1.hok.fresh (Nat.le_refl _))⟩
 ·obtain ⟨its, r', pl, hz⟩ := I.tuple hq
  exact call_tuple_same pl ⟨.ref p, H, I, rfl, q⟩
def tyV (K : Fg) (T : String) (x : V) (H : Hp) : Prop := match x with
 | .str _ => T = "str"
 | .int _ => T = "int"
 | .ref p => (T = "list" ∧ ∃ xs, SqL K H p xs) ∨ (T = "tuple" ∧ ∃ o, K.lookup p = some o ∧ o.cls = .type "tuple" ∧ o.dict = none) ∨
   (T = "dict" ∧ ((∃ kvs, H p = some (.dK kvs)) ∨ ∃ kvs, H p = some (.dT kvs))) ∨ (T = "set" ∧ ∃ S n, H p = some (.set S n))
 | _ => False
theorem tyV_is {pins : Pn} {σ : St} {H : Hp} {s : Shared} {T : String} {x : V} {v : Value} (I : Inv X pins σ H s) (r : RelV x v) (ty : tyV X.K T x H) :
  s.TypeIs v T ∧ ∀ a, v = .ref a → ∃ ob, s.heap.get? a = some ob ∧ ob.dict = none := by
 cases x with
 | str z =>
  obtain ⟨t, rfl⟩ := r
  cases (show T = "str" from ty)
  exact ⟨typeIs_str s z t, fun _ e => nomatch e⟩
 | int i =>
  obtain ⟨t, rfl⟩ := r
  cases (show T = "int" from ty)
  exact ⟨typeIs_int s i t, fun _ e => nomatch e⟩
 | ref p =>
  cases r
  rcases ty with ⟨rfl, xs, hq⟩ | ⟨rfl, o, hk, hc, hd⟩ | ⟨rfl, hk⟩ | ⟨rfl, S, n, hk⟩
  ·obtain ⟨its, _, pl, _⟩ := I.list hq
   refine ⟨pl.isList.typeIs, fun a e => ?_⟩
   cases e
   obtain ⟨o, n, e, c, hd, _⟩ := pl
   exact ⟨o, e, hd⟩
  ·refine ⟨⟨o, I.kIn p o hk, hc⟩, fun a e => ?_⟩
   cases e
   exact ⟨o, I.kIn _ o hk, hd⟩
  ·have z : ∃ o, s.heap.get? p = some o ∧ o.ExactDict := by
    rcases hk with ⟨kvs, hk⟩ | ⟨kvs, hk⟩
    ·obtain ⟨_, _, _, _, o, _, _, e, ex, _⟩ := I.hok p _ hk
     exact ⟨o, e, ex⟩
    ·obtain ⟨_, _, _, _, o, _, _, e, ex, _⟩ := I.hok p _ hk
     exact ⟨o, e, ex⟩
   obtain ⟨o, e, ex⟩ := z
   refine ⟨⟨o, e, ex.1⟩, fun a e2 => ?_⟩
   cases e2
   exact ⟨o, e, ex.2.1⟩
  ·obtain ⟨o, _, _, _, e, ex, _⟩ := I.hok p _ hk
   refine ⟨⟨o, e, ex.1⟩, fun a e2 => ?_⟩
   cases e2
   exact ⟨o, e, ex.2.1⟩
 | _ => exact False.elim ty
def tBM (K : Fg) (T : String) (r : V → List V → Hp → VK → Prop) (to : TE) (t : TA) : TE := fun σ H Q => to σ H fun x H1 => tyV K T x H1 ∧ t σ H1 fun xs H2 => r x xs H2 Q
variable {o e : Expr} {es : List Expr} {to : TE} {t : TA} {name : Str} {apos cpos : Pos} {T id : String} {r : V → List V → Hp → VK → Prop}
theorem Qfp (pa : PlainAttrs T) (slot : Slot T name id) (hty : typeOf (.builtin id) = pure (.type "method_descriptor")) (hm : MtR X id r) (ho : PE X o to) (ha : PA X (e :: es) t)
  (hbase : attributeBase o name X.env (eval o X.env) = eval o X.env := by rfl)
  (hfew : ((backTo cpos (starEach (e :: es) X.env)).all (fun x => !x.1) && (backToKw cpos (keywordEach [] X.env)).all (fun x => x.1.isSome)
   && decide ((e :: es).length + ([] : List Keyword).length + (if ([] : List Keyword).isEmpty then 0 else 1) < 30)) = true := by rfl)
  (hline : (apos.endLine == cpos.line) = true := by rfl) (hs : starEach (e :: es) X.env = (false, eval e X.env) :: starEach es X.env := by rfl) (hplain : (backTo cpos (starEach es X.env)).any (·.1) = false := by rfl) :
  PE X (.Call (.Attribute o name apos) (e :: es) [] cpos) (tBM X.K T r to t) := by
 intro pins s σ H Q I h
 refine wpAny_Call_method_late hbase hfew hline rfl (thn (ho pins s σ H _ I h) fun v s1 ⟨x, H1, I1, r1, ty, q1⟩ => ?_)
 obtain ⟨h1, h2⟩ := tyV_is I1 r1 ty
 refine ⟨T, id, pa, slot, hty, h1, h2, ?_⟩
 have hA := ha cpos pins s1 σ H1 _ I1 q1
 rw [hs] at hA ⊢
 refine Calls.callWith_builtin (by show (false || (backTo cpos (starEach es X.env)).any (·.1)) = false; rw [hplain] <;> rfl) (Calls.evalArgs_plain ?_)
 exact thn hA fun us s2 ⟨vs, H2, I2, r2, q2⟩ => hm pins s2 σ H2 x vs v us Q I2 r1 r2 q2
/- xs.append(e), list.index on a module's tuple .. are MtR facts of 06m -/
end
end L2
namespace L2
open PySem PySem.Spec PyProof.Rows
def MtM (X : Cx) (id : String) (r : V → List V → Hp → VK → Prop) : Prop :=
 ∀ (pins : Pn) (s : Shared) (σ : St) (H : Hp) (x : V) (xs : List V) (v : Value) (us : List Value) (Q : VK), Inv X pins σ H s → RelV x v → Vals xs us → r x xs H Q →
  wpAny (model X.prog X.w) X.A (call (.builtin id) (v :: us)) (EP X pins σ Q) X.xe s
theorem Vals.one : ∀ {x : V} {us : List Value}, Vals [x] us → ∃ u, us = [u] ∧ RelV x u
 | _, _, .cons r .nil => ⟨_, rfl, r⟩
theorem Vals.eraseIdx : ∀ {xs : List V} {us : List Value} (i : Nat), Vals xs us → Vals (xs.eraseIdx i) (us.eraseIdx i)
 | _, _, _, .nil => .nil
 | _, _, 0, .cons _ t => t
 | _, _, i + 1, .cons r t => .cons r (Vals.eraseIdx i t)
theorem Vals.rep {xs : List V} {us : List Value} (h : Vals xs us) : ∀ k : Nat, Vals (List.replicate k xs).flatten (List.replicate k us).flatten
 | 0 => .nil
 | k + 1 => by
  rw [List.replicate_succ, List.replicate_succ, List.flatten_cons, List.flatten_cons]
  exact Vals.append h (Vals.rep h k)
theorem QhJ (its : List Value) : ∀ (k : Nat) (acc : List Value),
  List.foldl (fun x1 x2 => x1 ++ x2) acc.toArray (List.replicate k its.toArray) = (acc ++ (List.replicate k its).flatten).toArray
 | 0, acc => by simp
 | k + 1, acc => by
  have e : acc.toArray ++ its.toArray = (acc ++ its).toArray := by simp
  have e2 : (acc ++ its) ++ (List.replicate k its).flatten = acc ++ (List.replicate (k + 1) its).flatten := by
   rw [List.replicate_succ, List.flatten_cons, List.append_assoc]
  rw [← e2, ← QhJ its k (acc ++ its), ← e, List.replicate_succ, List.foldl_cons]
section
variable {X : Cx} {pins : Pn} {σ : St} {H : Hp} {s : Shared} {l b : Addr} {xs ys zs : List V}
theorem Inv.lset {its its' : List Value} {n : Nat} {f : Array Value → Array Value} {t' : Nat} (I : Inv X pins σ H s) (hH : H l = some (.lst xs))
  (e : s.heap.get? l = some { cls := .type "list", data := .seq its.toArray n }) (hf : f its.toArray = its'.toArray) (hv : Vals ys its') (hz : ys.length ≤ sizeLine) :
  Inv X pins σ (upd H l (.lst ys)) { s with heap := s.heap.update l (Obj.mapSeq f), toks := t' } := by
 have q := PySem.IsL.update e f
 rw [hf] at q
 refine I.write (x := l) (e := l) (by rw [hH]; exact trivial) (.inl rfl) (fun b' u hb hu => (Heap.get?_update_other s.heap (Obj.mapSeq f) (Ne.symm hb)).trans hu) ⟨_, q⟩ ?_
 exact ⟨hz, its', _, hv, q⟩
theorem Inv.lnew {its : List Value} {t' : Nat} (I : Inv X pins σ H s) (hv : Vals ys its) (hz : ys.length ≤ sizeLine) :
  Inv X pins σ (upd H s.heap.objs.size (.lst ys)) { s with heap := s.heap.push { cls := .type "list", data := .seq its.toArray }, toks := t' } :=
 I.laid (fun _ _ q => Heap.get?_push_of_some _ q) (Nat.le_refl _) ⟨hz, its, 0, hv, Heap.get?_push_size _ rfl⟩
theorem Inv.fresh (I : Inv X pins σ H s) : H s.heap.objs.size = none := I.hok.fresh (Nat.le_refl _)
theorem Inv.lstM (I : Inv X pins σ H s) (hH : H l = some (.lst xs)) : xs.length ≤ sizeLine ∧ ∃ (its : List Value) (n : Nat), Vals xs its ∧ xs.length = its.length ∧ s.heap.get? l = some { cls := .type "list", data := .seq its.toArray n } := by
 obtain ⟨z, its, n, r, e⟩ := I.hok l _ hH
 exact ⟨z, its, n, r, r.length, e⟩
theorem QlD {n : Nat} (h : n ≤ sizeLine) : Builtin.List.listTooLong n = false := by
 unfold Builtin.List.listTooLong
 exact decide_eq_false (by omega)
end
section
variable {X : Cx}
def QmN : V → List V → Hp → VK → Prop := fun x vs H Q => ∃ l xs y, x = .ref l ∧ vs = [y] ∧ H l = some (.lst xs) ∧ xs.length < sizeLine ∧ Q .non (upd H l (.lst (xs ++ [y])))
theorem QaG : MtM X "list.append" QmN := by
 intro pins s σ H x vs v us Q I rx rv h
 obtain ⟨l, xs, y, rfl, rfl, hH, hz, q⟩ := h
 cases rx
 obtain ⟨u, rfl, ru⟩ := rv.one
 obtain ⟨z, its, n, r, hl, e⟩ := I.lstM hH
 refine call_meets F.slot_list_append ⟨_, e, rfl⟩ F.entry_list_append (F.args_list_append_2 _ _) (PySem.list_append l its.toArray n u (by rw [List.size_toArray]; omega)) ⟨e, ?_⟩
 refine ⟨.non, _, I.lset (its' := its ++ [u]) hH e (by simp) (r.append (.cons ru .nil)) ?_, rfl, q⟩
 rw [List.length_append, List.length_singleton]
 omega
def rCat : R2 := fun x y H Q => ∃ l b xs zs, x = .ref l ∧ y = .ref b ∧ H l = some (.lst xs) ∧ H b = some (.lst zs) ∧ xs.length + zs.length ≤ sizeLine ∧ ∀ p, H p = none → Q (.ref p) (upd H p (.lst (xs ++ zs)))
theorem Qky : OpR X (binaryOp .Add) rCat := by
 intro pins s σ H x y v u Q I rx ry h
 obtain ⟨l, b, xs, zs, rfl, rfl, hH, hB, hz, q⟩ := h
 cases rx
 cases ry
 obtain ⟨z, its, n, r, hl, e⟩ := I.lstM hH
 obtain ⟨z2, its2, n2, r2, hl2, e2⟩ := I.lstM hB
 refine PySem.P.add_list e e2 ?_ (by rw [List.size_toArray, List.size_toArray]; omega)
 have ea : its.toArray ++ its2.toArray = (its ++ its2).toArray := by simp
 rw [ea]
 exact ⟨.ref _, _, I.lnew (t' := s.toks) (r.append r2) (by rw [List.length_append]; omega), rfl, q _ I.fresh⟩
def rRep : R2 := fun x y H Q => ∃ l k xs, x = .ref l ∧ y = .int k ∧ H l = some (.lst xs) ∧ -(2 ^ 63) ≤ k ∧ k < 2 ^ 63 ∧ xs.length * k.toNat ≤ sizeLine ∧
 ∀ p, H p = none → Q (.ref p) (upd H p (.lst (List.replicate k.toNat xs).flatten))
theorem QmV {α : Type} (xs : List α) (k : Nat) : (List.replicate k xs).flatten.length = k * xs.length := by
 induction k with
 | zero => simp
 | succ k ih => rw [List.replicate_succ, List.flatten_cons, List.length_append, ih, Nat.succ_mul, Nat.add_comm]
theorem Qmh : OpR X (binaryOp .Mult) rRep := by
 intro pins s σ H x y v u Q I rx ry h
 obtain ⟨l, k, xs, rfl, rfl, hH, h1, h2, hz, q⟩ := h
 cases rx
 obtain ⟨t, rfl⟩ := ry
 obtain ⟨z, its, n, r, hl, e⟩ := I.lstM hH
 have hlen : its.toArray.size * k.toNat ≤ sizeLine := by rw [List.size_toArray, ← hl]; exact hz
 have hcap : ¬ its.toArray.size * k.toNat > (2 ^ 63 - 1) / 8 := by
  have : (sizeLine : Nat) ≤ (2 ^ 63 - 1) / 8 := by decide
  omega
 have hfit : ¬ (!Builtin.List.listFitsIndex k) = true := by
  rw [fitsIndex_both h1 h2]
  exact Bool.false_ne_true
 have hlong : ¬ Builtin.List.listTooLong (its.toArray.size * k.toNat) = true := by
  rw [QlD hlen]
  exact Bool.false_ne_true
 have hnew : List.foldl (fun x1 x2 => x1 ++ x2) #[] (List.replicate (if its.toArray.isEmpty = true then 0 else k.toNat) its.toArray) = (List.replicate k.toNat its).flatten.toArray := by
  have f0 : ∀ m : Nat, List.foldl (fun x1 x2 => x1 ++ x2) #[] (List.replicate m its.toArray) = (List.replicate m its).flatten.toArray := fun m => by
   have := QhJ its m []
   rw [List.nil_append] at this
   exact this
  rw [f0]
  cases its with
  | nil => simp
  | cons a r' => rw [if_neg (by simp)]
 refine wpAny_binaryOp_repeat_ref (T := "list") (U := "int") (by decide) ⟨_, e, rfl⟩ (fun s' => typeIs_int s' k t) noFill_list_mul F.fills_int_mul F.slot_int_rmul repeat_list F.slot_int_index.lookup
  (call_meets F.slot_int_rmul (typeIs_int s k t) F.entry_int_rmul (F.args_int_rmul_2 _ _) (int___rmul___int_list k t l its.toArray n)
   ⟨e, rfl, ⟨_, e, rfl⟩, call_meets F.slot_list_mul ⟨_, e, rfl⟩ F.entry_list_mul (F.args_list_mul_2 _ _) (AutoListH.list___mul___list_int_3 l its.toArray n k t hfit hcap hlong) ⟨e, ?_⟩⟩)
 rw [hnew]
 exact ⟨.ref _, _, I.lnew (t' := s.toks) (r.rep k.toNat) (by rw [QmV, Nat.mul_comm]; exact hz), rfl, q _ I.fresh⟩
end
section
variable {prog : Program} {w : World} {A : Around} {E : Value → Shared → Prop} {s : Shared}
end
section
variable {X : Cx}
end
end L2
namespace L2
open PySem PySem.Spec PyProof.Rows
section
variable {κ : Type} [DecidableEq κ]
def Qa2 (kvs : List (κ × V)) (k : κ) : Option V := (kvs.find? fun kv => decide (kv.1 = k)).map (·.2)
def Qci (kvs : List (κ × V)) (k : κ) (v : V) : List (κ × V) :=
 if (kvs.any fun kv => decide (kv.1 = k)) = true then kvs.map (fun kv => if kv.1 = k then (kv.1, v) else kv) else kvs ++ [(k, v)]
def Qek (kvs : List (κ × V)) (k : κ) : List (κ × V) := kvs.filter fun kv => decide (kv.1 ≠ k)
theorem QcL {p : κ × V} {r : List (κ × V)} {k : κ} (e : p.1 = k) : Qa2 (p :: r) k = some p.2 := by simp [Qa2, List.find?_cons, e]
theorem QcN {p : κ × V} {r : List (κ × V)} {k : κ} (e : ¬ p.1 = k) : Qa2 (p :: r) k = Qa2 r k := by simp [Qa2, List.find?_cons, e]
theorem QcO (k : κ) : ∀ kvs : List (κ × V), (kvs.any fun kv => decide (kv.1 = k)) = (Qa2 kvs k).isSome
 | [] => rfl
 | p :: r => by
  rw [List.any_cons]
  by_cases e : p.1 = k
  ·simp only [QcL e, decide_eq_true e, Bool.true_or, Option.isSome_some]
  ·rw [QcN e, decide_eq_false e, Bool.false_or]; exact QcO k r
theorem Qb4 (kvs : List (κ × V)) (k : κ) (v : V) : (Qci kvs k v).length ≤ kvs.length + 1 := by
 unfold Qci
 split
 ·rw [List.length_map]; omega
 ·rw [List.length_append, List.length_cons, List.length_nil]; omega
theorem QcS {kvs : List (κ × V)} {k : κ} (v : V) (h : Qa2 kvs k = none) : Qci kvs k v = kvs ++ [(k, v)] := by
 unfold Qci
 rw [QcO, h]
 exact if_neg (by decide)
theorem RelO.isSome_eq {o : Option V} {u : Option Value} (r : RelO o u) : o.isSome = u.isSome := by
 cases o with
 | none => cases u with
  | none => rfl
  | some _ => exact (show False from r).elim
 | some _ => cases u with
  | none => exact (show False from r).elim
  | some _ => rfl
theorem RelO.getD {o : Option V} {u : Option Value} {d : V} {d' : Value} (r : RelO o u) (rd : RelV d d') : RelV (o.getD d) (u.getD d') := by
 cases o with
 | none => cases u with
  | none => exact rd
  | some _ => exact (show False from r).elim
 | some _ => cases u with
  | none => exact (show False from r).elim
  | some _ => exact r
theorem KV.val {kvs : List (κ × V)} {vs : List (κ × Value)} (r : KV kvs vs) (k : κ) : RelO (Qa2 kvs k) (valueAt vs k) := by
 unfold KV at r
 induction r with
 | nil => exact True.intro
 | @cons p q ps qs h t ih =>
  obtain ⟨h1, h2⟩ := h
  by_cases e : p.1 = k
  ·have e' : q.1 = k := h1.symm.trans e
   have b : valueAt (q :: qs) k = some q.2 := by simp [valueAt, List.find?_cons, e']
   rw [QcL e, b]; exact h2
  ·have e' : ¬ q.1 = k := fun z => e (h1.trans z)
   have b : valueAt (q :: qs) k = valueAt qs k := by simp [valueAt, List.find?_cons, e']
   rw [QcN e, b]; exact ih
theorem KV.any {kvs : List (κ × V)} {vs : List (κ × Value)} (r : KV kvs vs) (k : κ) : (kvs.any fun kv => decide (kv.1 = k)) = vs.any fun kv => decide (kv.1 = k) := by
 unfold KV at r
 induction r with
 | nil => rfl
 | cons h t ih => rw [List.any_cons, List.any_cons, ih, h.1]
theorem KV.repl {kvs : List (κ × V)} {vs : List (κ × Value)} (r : KV kvs vs) (k : κ) {y : V} {u : Value} (ry : RelV y u) :
  KV (kvs.map fun kv => if kv.1 = k then (kv.1, y) else kv) (vs.map fun kv => if kv.1 = k then (kv.1, u) else kv) := by
 unfold KV at r ⊢
 induction r with
 | nil => exact .nil
 | @cons p q ps qs h t ih =>
  rw [List.map_cons, List.map_cons]
  refine .cons ?_ ih
  obtain ⟨h1, h2⟩ := h
  by_cases e : p.1 = k
  ·rw [if_pos e, if_pos (h1.symm.trans e)]; exact ⟨h1, ry⟩
  ·rw [if_neg e, if_neg (fun z => e (h1.trans z))]; exact ⟨h1, h2⟩
theorem KV.put {kvs : List (κ × V)} {vs : List (κ × Value)} (r : KV kvs vs) (k : κ) {y : V} {u : Value} (ry : RelV y u) : KV (Qci kvs k y) (stored vs k u) := by
 unfold Qci stored
 rw [r.any k]
 by_cases e : (vs.any fun kv => decide (kv.1 = k)) = true
 ·rw [if_pos e, if_pos e]; exact r.repl k ry
 ·rw [if_neg e, if_neg e]; exact Paired.snoc r ⟨rfl, ry⟩
theorem KV.drop {kvs : List (κ × V)} {vs : List (κ × Value)} (r : KV kvs vs) (k : κ) : KV (Qek kvs k) (without vs k) := by
 unfold KV at r ⊢
 unfold Qek without
 induction r with
 | nil => exact .nil
 | @cons p q ps qs h t ih =>
  obtain ⟨h1, h2⟩ := h
  rw [List.filter_cons, List.filter_cons]
  by_cases e : p.1 = k
  ·have a : ¬ decide (p.1 ≠ k) = true := by simp [e]
   have b : ¬ decide (q.1 ≠ k) = true := by simp [h1.symm.trans e]
   rw [if_neg a, if_neg b]; exact ih
  ·have e' : ¬ q.1 = k := fun z => e (h1.trans z)
   have a : decide (p.1 ≠ k) = true := by simp [e]
   have b : decide (q.1 ≠ k) = true := by simp [e']
   rw [if_pos a, if_pos b]; exact .cons ⟨h1, h2⟩ ih
theorem KV.keys {kvs : List (κ × V)} {vs : List (κ × Value)} (r : KV kvs vs) : kvs.map (·.1) = vs.map (·.1) := by
 unfold KV at r
 induction r with
 | nil => rfl
 | cons h t ih => rw [List.map_cons, List.map_cons, ih, h.1]
theorem KV.length {kvs : List (κ × V)} {vs : List (κ × Value)} (r : KV kvs vs) : kvs.length = vs.length := Paired.length r
theorem QlT (kvs : List (κ × V)) (k : κ) : (Qek kvs k).length ≤ kvs.length := List.length_filter_le _ _
end
theorem QfL {P : Program} {w : World} {k : Key} {u : Value} (r : RelV (kV k) u) : (QS P w).is k u = true := by
 cases k with
 | inl i => obtain ⟨t, e⟩ := (show ∃ t, u = Value.int i t from r); subst e; exact Qio P w i t
 | inr x => obtain ⟨t, e⟩ := (show ∃ t, u = Value.str x t from r); subst e; exact Qin P w x t
theorem QhH {P : Program} {w : World} : ∀ {ks : List Key} {us : List Value}, Vals (ks.map kV) us → ItemsAre (QS P w) ks us
 | [], _, r => by rw [List.map_nil] at r; cases r; exact .nil
 | k :: ks, _, r => by
  rw [List.map_cons] at r
  cases r with
  | cons h t => exact .cons (QfL h) (QhH t)
abbrev KT (H : Hp) : List (List Key × V) → List (List Key × Addr × Value) → Prop := Paired fun p q => p.1 = q.1 ∧ H q.2.1 = some (.tup (p.1.map kV)) ∧ RelV p.2 q.2.2
theorem KT.val {H : Hp} {kvs : List (List Key × V)} {xs : List (List Key × Addr × Value)} (r : KT H kvs xs) (k : List Key) : RelO (Qa2 kvs k) ((atKey xs k).map (·.2)) := by
 induction r with
 | nil => exact True.intro
 | @cons p q ps qs h t ih =>
  obtain ⟨h1, _, h2⟩ := h
  by_cases e : p.1 = k
  ·have e' : q.1 = k := h1.symm.trans e
   have b : atKey (q :: qs) k = some q.2 := by simp [atKey, List.find?_cons, e']
   rw [QcL e, b]; exact h2
  ·have e' : ¬ q.1 = k := fun z => e (h1.trans z)
   have b : atKey (q :: qs) k = atKey qs k := by simp [atKey, List.find?_cons, e']
   rw [QcN e, b]; exact ih
theorem KT.repl {H : Hp} {kvs : List (List Key × V)} {xs : List (List Key × Addr × Value)} (r : KT H kvs xs) (k : List Key) {y : V} {u : Value} (ry : RelV y u) :
  KT H (kvs.map fun kv => if kv.1 = k then (kv.1, y) else kv) (xs.map (putAt k u)) := by
 induction r with
 | nil => exact .nil
 | @cons p q ps qs h t ih =>
  rw [List.map_cons, List.map_cons]
  refine .cons ?_ ih
  obtain ⟨h1, h2, h3⟩ := h
  unfold putAt
  by_cases e : p.1 = k
  ·rw [if_pos e, if_pos (h1.symm.trans e)]; exact ⟨h1, h2, ry⟩
  ·rw [if_neg e, if_neg (fun z => e (h1.trans z))]; exact ⟨h1, h2, h3⟩
theorem KT.put {H : Hp} {kvs : List (List Key × V)} {xs : List (List Key × Addr × Value)} (r : KT H kvs xs) (k : List Key) {b : Addr} {y : V} {u : Value} (hb : H b = some (.tup (k.map kV))) (ry : RelV y u) :
  KT H (Qci kvs k y) (storedH xs k b u) := by
 have e : (kvs.any fun kv => decide (kv.1 = k)) = (atKey xs k).isSome := by
  rw [QcO, (r.val k).isSome_eq, Option.isSome_map]
 unfold Qci storedH
 rw [e]
 by_cases q : (atKey xs k).isSome = true
 ·rw [if_pos q, if_pos q]; exact r.repl k ry
 ·rw [if_neg q, if_neg q]; exact Paired.snoc r ⟨rfl, hb, ry⟩
theorem KT.keeps {H H' : Hp} {kvs : List (List Key × V)} {xs : List (List Key × Addr × Value)} (r : KT H kvs xs) (ht : ∀ b ys, H b = some (.tup ys) → H' b = some (.tup ys)) : KT H' kvs xs :=
 Paired.mapP r fun _ _ z => ⟨z.1, ht _ _ z.2.1, z.2.2⟩
section
variable {P : Program} {w : World} {H : Hp} {h : Heap} {a : Addr}
theorem rd_of {u : HO} (ok : HOk P w H h) (e : Rd H a u) : ObjOk P w H h a u := e.ok ok
theorem QhQ {kvs : List (Key × V)} (ok : HOk P w H h) (e : Rd H a (.dK kvs)) : kvs.length ≤ sizeLine ∧ (a == sysModules) = false ∧ ∃ vs, KV kvs vs ∧ h.DictOf (QS P w) a vs :=
 show ObjOk P w H h a (.dK kvs) from rd_of ok e
theorem Qk4 {kvs : List (Key × V)} (ok : HOk P w H h) (e : H a = some (.dK kvs)) : kvs.length ≤ sizeLine ∧ (a == sysModules) = false ∧ ∃ vs, KV kvs vs ∧ h.DictOf (QS P w) a vs := QhQ ok (.inl e)
theorem Qgq {ks : List Key} (ok : HOk P w H h) (e : H a = some (.tup (ks.map kV))) : (tupleKind (QS P w)).is h ks a := by
 obtain ⟨_, its, r, o, h1, h2, n, h3⟩ := (show ObjOk P w H h a (.tup (ks.map kV)) from ok a _ e)
 exact ⟨o, its.toArray, n, h1, h2, h3, by simpa using QhH r⟩
theorem Qiv {kvs : List (List Key × V)} (ok : HOk P w H h) (e : Rd H a (.dT kvs)) : kvs.length ≤ sizeLine ∧ (a == sysModules) = false ∧
  ∃ xs, KT H kvs xs ∧ h.DictOfH (tupleKind (QS P w)) a xs := by
 obtain ⟨z, y, xs, r, o, es, ep, h1, h2, h3, h4, h5⟩ := (show ObjOk P w H h a (.dT kvs) from rd_of ok e)
 refine ⟨z, y, xs, r, o, es, ep, h1, h2, h3, h4, fun x hx => ?_, h5⟩
 have all : ∀ {l : List (List Key × V)} {m : List (List Key × Addr × Value)}, KT H l m → ∀ x ∈ m, (tupleKind (QS P w)).is h x.1 x.2.1 := by
  intro l m q
  induction q with
  | nil => intro x hx; exact nomatch hx
  | @cons p q ps qs hq t ih =>
   intro x hx
   rcases List.mem_cons.mp hx with e | hx
   ·subst e
    exact Qgq ok (by rw [← hq.1]; exact hq.2.1)
   ·exact ih x hx
 exact all r x hx
theorem dt_of {kvs : List (List Key × V)} (ok : HOk P w H h) (e : H a = some (.dT kvs)) : kvs.length ≤ sizeLine ∧ (a == sysModules) = false ∧
  ∃ xs, KT H kvs xs ∧ h.DictOfH (tupleKind (QS P w)) a xs := Qiv ok (.inl e)
end
def DGet (H : Hp) (a : Addr) (y : V) (r : Option V) : Prop :=
 (∃ kvs k, Rd H a (.dK kvs) ∧ y = kV k ∧ r = Qa2 kvs k) ∨ ∃ kvs k b, Rd H a (.dT kvs) ∧ y = .ref b ∧ H b = some (.tup (k.map kV)) ∧ r = Qa2 kvs k
def DPut (H : Hp) (a : Addr) (y v : V) (H' : Hp) : Prop :=
 (∃ kvs k, H a = some (.dK kvs) ∧ y = kV k ∧ kvs.length < sizeLine ∧ H' = upd H a (.dK (Qci kvs k v))) ∨
 ∃ kvs k b, H a = some (.dT kvs) ∧ y = .ref b ∧ H b = some (.tup (k.map kV)) ∧ kvs.length < sizeLine ∧ H' = upd H a (.dT (Qci kvs k v))
theorem DGet.k {H : Hp} {a : Addr} {kvs : List (Key × V)} {k : Key} (e : H a = some (.dK kvs)) : DGet H a (kV k) (Qa2 kvs k) := .inl ⟨kvs, k, .inl e, rfl, rfl⟩
theorem DPut.k {H : Hp} {a : Addr} {kvs : List (Key × V)} {k : Key} {v : V} (e : H a = some (.dK kvs)) (hl : kvs.length < sizeLine) : DPut H a (kV k) v (upd H a (.dK (Qci kvs k v))) := .inl ⟨kvs, k, e, rfl, hl, rfl⟩
section
variable {X : Cx} {pins : Pn} {σ : St} {H : Hp} {s : Shared} {a : Addr} {y v : V} {u r : Value} {o : Option V} {A : Around} {E : Value → Shared → Prop}
theorem Inv.big (I : Inv X pins σ H s) : sysModules < s.heap.objs.size := by
 have h : mainGlobals < s.heap.objs.size := (I.mod.glob.keeps I.bk).lt
 exact Nat.lt_trans (by decide) h
theorem Qk9 {Q : Value → Shared → Prop} (hu : A.units + 1 < cLine) (I : Inv X pins σ H s) (g : DGet H a y (some v)) (ry : RelV y u) (h : ∀ w' s', Inv X pins σ H s' → RelV v w' → Q w' s') :
  wpAny (model X.prog X.w) A (getItem (.ref a) u) Q E s := by
 rcases g with ⟨kvs, k, e, ey, l⟩ | ⟨kvs, k, b, e, ey, eb, l⟩
 ·subst ey
  obtain ⟨z, hd, vs, rel, dd⟩ := QhQ I.hok e
  obtain ⟨w', hw, rw'⟩ := RelO.some_of (v := v) (o := valueAt vs k) (by rw [l]; exact rel.val k)
  exact wpAny_getItem_of (QfL ry) dd.mapOf hw (h w' _ (I.tok _) rw')
 ·subst ey
  cases (show u = Value.ref b from ry)
  obtain ⟨z, hd, xs, rel, dd⟩ := Qiv I.hok e
  obtain ⟨w', hw, rw'⟩ := RelO.some_of (v := v) (o := (atKey xs k).map (·.2)) (by rw [l]; exact rel.val k)
  obtain ⟨p, hp, hp2⟩ := Option.map_eq_some_iff.mp hw
  refine wpAny_getItem_heap (tupleKind_room_in1 hu) (Qgq I.hok eb) dd hp ?_
  rw [hp2]
  exact h w' _ (I.tok _) rw'
theorem d_in {Q : Value → Shared → Prop} (hu : A.units + 1 < cLine) (I : Inv X pins σ H s) (g : DGet H a y o) (ry : RelV y u) (h : ∀ s', Inv X pins σ H s' → Q (.bool o.isSome) s') :
  wpAny (model X.prog X.w) A (compareOp .In u (.ref a)) Q E s := by
 rcases g with ⟨kvs, k, e, ey, l⟩ | ⟨kvs, k, b, e, ey, eb, l⟩
 ·subst ey
  obtain ⟨z, hd, vs, rel, dd⟩ := QhQ I.hok e
  refine wpAny_in_of (QfL ry) hd dd.mapOf ?_
  rw [← (rel.val k).isSome_eq, ← l]
  exact h _ (I.tok _)
 ·subst ey
  cases (show u = Value.ref b from ry)
  obtain ⟨z, hd, xs, rel, dd⟩ := Qiv I.hok e
  refine wpAny_in_heap (tupleKind_room_in1 hu) (Qgq I.hok eb) hd dd ?_
  have q := (rel.val k).isSome_eq
  rw [Option.isSome_map] at q
  rw [← q, ← l]
  exact h _ (I.tok _)
theorem Qm5 {Q : Value → Shared → Prop} (hu : A.units + 1 < cLine) (I : Inv X pins σ H s) (g : DGet H a y o) (ry : RelV y u) (h : ∀ s', Inv X pins σ H s' → Q (.bool (!o.isSome)) s') :
  wpAny (model X.prog X.w) A (compareOp .NotIn u (.ref a)) Q E s := by
 rcases g with ⟨kvs, k, e, ey, l⟩ | ⟨kvs, k, b, e, ey, eb, l⟩
 ·subst ey
  obtain ⟨z, hd, vs, rel, dd⟩ := QhQ I.hok e
  refine wpAny_notIn_of (QfL ry) hd dd.mapOf ?_
  rw [← (rel.val k).isSome_eq, ← l]
  exact h _ (I.tok _)
 ·subst ey
  cases (show u = Value.ref b from ry)
  obtain ⟨z, hd, xs, rel, dd⟩ := Qiv I.hok e
  refine wpAny_notIn_heap (tupleKind_room_in1 hu) (Qgq I.hok eb) hd dd ?_
  have q := (rel.val k).isSome_eq
  rw [Option.isSome_map] at q
  rw [← q, ← l]
  exact h _ (I.tok _)
theorem QfN {h' : Heap} {t' : Nat} {ob : HO} (I : Inv X pins σ H s) (mu : Mut (H a)) (hs : Heap.SameBut a s.heap h') (he : ∃ q, h'.get? a = some q) (new : ObjOk X.prog X.w (upd H a ob) h' a ob) :
  Inv X pins σ (upd H a ob) { s with heap := h', toks := t' } :=
 I.write (x := a) (e := a) mu (.inl rfl) (fun b q hb z => (hs.2 b hb).trans z) he new
theorem QhR {P : Program} {w : World} {H' : Hp} {h' : Heap} {kvs : List (Key × V)} {vs : List (Key × Value)} (z : kvs.length ≤ sizeLine) (hd : (a == sysModules) = false) (rel : KV kvs vs) (dd : h'.DictOf (QS P w) a vs) :
  ObjOk P w H' h' a (.dK kvs) := ⟨z, hd, vs, rel, dd⟩
theorem Qk8 {H' : Hp} {Q : Unit → Shared → Prop} (hu : A.units + 1 < cLine) (I : Inv X pins σ H s) (g : DPut H a y v H') (ry : RelV y u) (rv : RelV v r) (h : ∀ s', Inv X pins σ H' s' → Q () s') :
  wpAny (model X.prog X.w) A (setItem (.ref a) u r) Q E s := by
 rcases g with ⟨kvs, k, e, ey, l, eH⟩ | ⟨kvs, k, b, e, ey, eb, l, eH⟩
 ·subst ey eH
  obtain ⟨z, hd, vs, rel, dd⟩ := Qk4 I.hok e
  have hz : vs.length ≤ sizeLine := by rw [← rel.length]; exact z
  have hl : (Qci kvs k v).length ≤ sizeLine := by have := Qb4 kvs k v; omega
  refine wpAny_setItem_pairs (hsz := hz) (QfL ry) dd fun h' dd' hs => h _ ?_
  have he : ∃ q, h'.get? a = some q := let ⟨q, _, _, hq, _⟩ := dd'; ⟨q, hq⟩
  exact QfN I (by rw [e]; exact True.intro) hs he (QhR hl hd (rel.put k rv) dd')
 ·subst ey eH
  cases (show u = Value.ref b from ry)
  obtain ⟨z, hd, xs, rel, dd⟩ := dt_of I.hok e
  have hz : xs.length ≤ sizeLine := by rw [← Paired.length rel]; exact z
  have hl : (Qci kvs k v).length ≤ sizeLine := by have := Qb4 kvs k v; omega
  refine wpAny_setItem_heap (hsz := hz) (tupleKind_room_in1 hu) (Qgq I.hok eb) dd fun h' dd' hs => h _ ?_
  obtain ⟨q, es, ep, hq, h2, h3, h4, _, h5⟩ := dd'
  refine QfN I (by rw [e]; exact True.intro) hs ⟨q, hq⟩ ⟨hl, hd, _, (rel.put k eb rv).keeps fun c ys ec => ?_, q, es, ep, hq, h2, h3, h4, h5⟩
  rw [Qh (QI ec e (fun z => nomatch z))]
  exact ec
end
section
variable {X : Cx} {pins : Pn} {σ : St} {H : Hp} {s : Shared} {a : Addr} {kvs : List (Key × V)} {k : Key} {u : Value} {A : Around} {E : Value → Shared → Prop}
theorem d_pop {v : V} {more : List Value} {Q : Value → Shared → Prop} (I : Inv X pins σ H s) (e : H a = some (.dK kvs)) (ry : RelV (kV k) u) (l : Qa2 kvs k = some v) (hm : more = [] ∨ ∃ x, more = [x])
  (h : ∀ w' s', Inv X pins σ (upd H a (.dK (Qek kvs k))) s' → RelV v w' → Q w' s') : wpAny (model X.prog X.w) A (call (.builtin "dict.pop") (.ref a :: u :: more)) Q E s := by
 obtain ⟨z, hd, vs, rel, dd⟩ := Qk4 I.hok e
 obtain ⟨w', hw, rw'⟩ := RelO.some_of (v := v) (o := valueAt vs k) (by rw [← l]; exact rel.val k)
 have hp : (keyPart u).isSome = true := by
  cases k with
  | inl i => obtain ⟨t, q⟩ := (show ∃ t, u = Value.int i t from ry); subst q; rfl
  | inr x => obtain ⟨t, q⟩ := (show ∃ t, u = Value.str x t from ry); subst q; rfl
 have ha : argsOk "dict.pop" ⟨.ref a :: u :: more, []⟩ := by
  rcases hm with q | ⟨x, q⟩
  ·subst q; exact PySem.F.args_dict_pop_2 _ _
  ·subst q; exact PySem.F.args_dict_pop_3 _ _ _
 refine call_meetsIn PySem.F.slot_dict_pop dd.typeIs PySem.F.entry_dict_pop ha (meets_dict_pop_there (QS X.prog X.w) a (QfL ry) more hm hp)
  ⟨vs, w', dd, by rw [← rel.length]; exact z, hw, fun h' dd' hs => h w' _ ?_ rw'⟩
 have he : ∃ q, h'.get? a = some q := let ⟨q, _, _, hq, _⟩ := dd'; ⟨q, hq⟩
 exact QfN I (by rw [e]; exact True.intro) hs he (QhR (Nat.le_trans (QlT kvs k) z) hd (rel.drop k) dd')
theorem d_len {Q : Value → Shared → Prop} (I : Inv X pins σ H s) (e : Rd H a (.dK kvs)) (h : ∀ t s', Inv X pins σ H s' → Q (.int kvs.length t) s') : wpAny (model X.prog X.w) A (call (.builtin "len") [.ref a]) Q E s := by
 obtain ⟨z, hd, vs, rel, dd⟩ := QhQ I.hok e
 refine call_len_dict hd dd (by rw [← rel.length]; rw [sizeLine_eq] at z; omega) ?_
 rw [← rel.length]
 exact h _ _ (I.tok _)
end
def NoSl (i : Expr) : Prop := ∀ ov iv, subscripted i false ov iv = operate [ov, iv] (getItem ov iv)
theorem QmF {prog : Program} {w : World} {A : Around} {E : Value → Shared → Prop} {s : Shared} {env : Env} {value slice : Expr} {pos : Pos} {T id : String} {Q : Value → Shared → Prop}
  (hl : typeLookup (.type T) "__getitem__" = pure (some (.builtin id))) (hs : NoSl slice)
  (h : wpAny (model prog w) A (eval value env) (fun o s₁ => wpAny (model prog w) A (eval slice env) (fun i s₂ => s₂.TypeIs o T ∧ wpAny (model prog w) A (getItem o i) Q E s₂) E s₁) E s) :
  wpAny (model prog w) A (eval (.Subscript value slice pos) env) Q E s := by
 refine Subscript_ (wpAny_mono h (fun o s₁ h₁ => wpAny_mono h₁ (fun i s₂ h₂ => ?_) fun _ _ x => x) fun _ _ x => x)
 obtain ⟨hT, h₂⟩ := h₂
 unfold subscriptTail
 refine wpAny_bind ?_
 rw [getitemInPython_of_ne hT.not_modules]
 refine wpAny_bind (wpAny_specialOf hT hl ?_)
 have fin : wpAny (model prog w) A (subscripted slice false o i) (fun r s₃ => wpAny (model prog w) A (letTemporaryGo value o r >>= fun _ => pure r) Q E s₃) E s₂ := by
  rw [hs o i]
  exact wpAny_operating (wpAny_mono h₂ (fun r s₃ h₃ => wpAny_bind (wpAny_letTemporaryGo (wpAny_pure h₃))) fun _ _ x => x)
 first
  | exact wpAny_pure (wpAny_bind fin)
  | exact wpAny_bind (wpAny_pure (wpAny_bind fin))
  | exact wpAny_bind fin
theorem Qiw {X : Cx} {pins : Pn} {σ : St} {H : Hp} {s : Shared} {a : Addr} {y : V} {o : Option V} (I : Inv X pins σ H s) (g : DGet H a y o) : s.TypeIs (.ref a) "dict" := by
 rcases g with ⟨kvs, k, e, _, _⟩ | ⟨kvs, k, b, e, _, _, _⟩
 ·obtain ⟨_, _, vs, _, dd⟩ := QhQ I.hok e
  exact dd.typeIs
 ·obtain ⟨_, _, xs, _, dd⟩ := Qiv I.hok e
  exact dd.typeIs
def tDGet (td ty : TE) : TE := fun σ H Q => td σ H fun x H1 => ty σ H1 fun y H2 => ∃ a v, x = .ref a ∧ DGet H2 a y (some v) ∧ Q v H2
def tDIn (ty td : TE) : TE := fun σ H Q => ty σ H fun y H1 => td σ H1 fun x H2 => ∃ a o, x = .ref a ∧ DGet H2 a y o ∧ Q (.bl o.isSome) H2
def QmC (ty td : TE) : TE := fun σ H Q => ty σ H fun y H1 => td σ H1 fun x H2 => ∃ a o, x = .ref a ∧ DGet H2 a y o ∧ Q (.bl (!o.isSome)) H2
def sDPut (td ty tv : TE) : TS := fun D σ H => tv σ H fun v H1 => td σ H1 fun x H2 => ty σ H2 fun y H3 => ∃ a H4, x = .ref a ∧ DPut H3 a y v H4 ∧ D.nx σ H4
section
variable {X : Cx} {o i e value : Expr} {pos pos' tpos : Pos} {td ty tv : TE}
theorem Qao (hu : X.A.units + 1 < cLine) (ho : PE X o td) (hi : PE X i ty) (hs : NoSl i) : PE X (.Subscript o i pos) (tDGet td ty) := by
 intro pins s σ H Q I h
 refine QmF PySem.F.slot_dict_getitem.lookup hs (thn (ho pins s σ H _ I h) fun u s1 ⟨x, H1, I1, rx, q1⟩ => thn (hi pins s1 σ H1 _ I1 q1) fun iv s2 ⟨y, H2, I2, ry, a, v, ex, g, q2⟩ => ?_)
 subst ex
 obtain rfl : u = Value.ref a := rx
 exact ⟨Qiw I2 g, Qk9 hu I2 g ry fun w' s3 I3 rw' => ⟨v, H2, I3, rw', q2⟩⟩
theorem pc_din (hu : X.A.units + 1 < cLine) (hi : PE X i ty) (ho : PE X o td) : PC X .In i o (tDIn ty td) := by
 intro pins s σ H Q I h
 refine thn (hi pins s σ H _ I h) fun iv s1 ⟨y, H1, I1, ry, q1⟩ => thn (ho pins s1 σ H1 _ I1 q1) fun u s2 ⟨x, H2, I2, rx, a, ov, ex, g, q2⟩ => ?_
 subst ex
 obtain rfl : u = Value.ref a := rx
 exact d_in hu I2 g ry fun s3 I3 => ⟨.bl ov.isSome, H2, I3, rfl, q2⟩
theorem QdL (hu : X.A.units + 1 < cLine) (hi : PE X i ty) (ho : PE X o td) : PC X .NotIn i o (QmC ty td) := by
 intro pins s σ H Q I h
 refine thn (hi pins s σ H _ I h) fun iv s1 ⟨y, H1, I1, ry, q1⟩ => thn (ho pins s1 σ H1 _ I1 q1) fun u s2 ⟨x, H2, I2, rx, a, ov, ex, g, q2⟩ => ?_
 subst ex
 obtain rfl : u = Value.ref a := rx
 exact Qm5 hu I2 g ry fun s3 I3 => ⟨.bl (!ov.isSome), H2, I3, rfl, q2⟩
theorem Qcz (hu : X.A.units + 1 < cLine) (ho : PE X o td) (hi : PE X i ty) (hv : PE X value tv) (hs : swapsWith value (some (.Subscript o i pos')) pos.line X.env = pure false) :
  PS X (.Assign [.Subscript o i pos'] value pos) (sDPut td ty tv) := by
 intro pins s σ H D I h
 refine wpAny_Assign_Subscript (thn (hv pins s σ H _ I h) fun r s1 ⟨v, H1, I1, rv, q1⟩ => thn (ho pins s1 σ H1 _ I1 q1) fun u s2 ⟨x, H2, I2, rx, q2⟩ => thn (hi pins s2 σ H2 _ I2 q2) fun iv s3 ⟨y, H3, I3, ry, a, H4, ex, g, q3⟩ => ?_) hs
 subst ex
 obtain rfl : u = Value.ref a := rx
 exact Qk8 hu I3 g ry rv fun s4 I4 => ⟨σ, H4, I4, q3⟩
end
theorem Qi5 {P : Program} {w : World} {H : Hp} (h : Heap) (hb : sysModules < h.objs.size) : ObjOk P w H (h.push { cls := .type "dict", data := .dict #[] }) h.objs.size (.dK []) :=
 ⟨Nat.zero_le _, beq_eq_false_iff_ne.mpr (Ne.symm (Nat.ne_of_lt hb)), [], .nil, Heap.DictOf.new h⟩
def tDNewK : TE := fun _ H Q => ∀ p, H p = none → Q (.ref p) (upd H p (.dK []))
section
variable {X : Cx} {pos : Pos}
theorem Qbn : PE X (.Dict [] [] pos) tDNewK := fun pins s σ H Q I h =>
 wpAny_Dict_empty ⟨.ref s.heap.objs.size, _, I.laid (a := s.heap.objs.size) (o := .dK []) (t' := s.toks) (fun _ _ q => Heap.get?_push_of_some _ q) (Nat.le_refl _) (Qi5 s.heap I.big), rfl, h _ (I.hok.fresh (Nat.le_refl _))⟩
end
def QjU : List (TE × TE) → St → Hp → (List (V × V) → Hp → Prop) → Prop
 | [], _, H, Q => Q [] H
 | (tk, tv) :: r, σ, H, Q => tk σ H fun x H1 => tv σ H1 fun y H2 => QjU r σ H2 fun ps H3 => Q ((x, y) :: ps) H3
abbrev VV : List (V × V) → List (Value × Value) → Prop := Paired fun p q => RelV p.1 q.1 ∧ RelV p.2 q.2
def PPs (X : Cx) (pos : Pos) (keys : List (Option Expr)) (values : List Expr) (trs : List (TE × TE)) : Prop :=
 ∀ (pins : Pn) (s : Shared) (σ : St) (H : Hp) (Q : List (V × V) → Hp → Prop), Inv X pins σ H s → QjU trs σ H Q →
  wpAny (model X.prog X.w) X.A (evalPairs (pairTrees keys values X.env pos)) (fun vs s' => ∃ ps H', Inv X pins σ H' s' ∧ VV ps vs ∧ Q ps H') X.xe s
theorem QmP {X : Cx} {pos : Pos} : PPs X pos [] [] [] := fun pins s σ H Q I h => pairTrees_nil_walk ⟨[], H, I, .nil, h⟩
theorem Qlv {X : Cx} {pos : Pos} {k v : Expr} {ks : List (Option Expr)} {vs : List Expr} {tk tv : TE} {trs : List (TE × TE)} (hk : PE X k tk) (hv : PE X v tv) (hr : PPs X pos ks vs trs) :
  PPs X pos (some k :: ks) (v :: vs) ((tk, tv) :: trs) := fun pins s σ H Q I h =>
 pairTrees_cons_walk (thn (hk pins s σ H _ I h) fun u s1 ⟨x, H1, I1, rx, q1⟩ => thn (hv pins s1 σ H1 _ I1 q1) fun w2 s2 ⟨y, H2, I2, ry, q2⟩ =>
  thn (hr pins s2 σ H2 _ I2 q2) fun ws s3 ⟨ps, H3, I3, rel, q3⟩ => ⟨(x, y) :: ps, H3, I3, .cons ⟨rx, ry⟩ rel, q3⟩)
def QhD (kvs more : List (Key × V)) : List (Key × V) := more.foldl (fun acc kv => Qci acc kv.1 kv.2) kvs
theorem KV.merge : ∀ {more : List (Key × V)} {rs : List (Key × Value)} {kvs : List (Key × V)} {vs : List (Key × Value)}, KV more rs → KV kvs vs → KV (QhD kvs more) (merged vs rs) := by
 intro more rs kvs vs r
 unfold KV at r
 induction r generalizing kvs vs with
 | nil => intro q; exact q
 | @cons p q ps qs h t ih =>
  intro r0
  have e : KV (Qci kvs p.1 p.2) (stored vs q.1 q.2) := by
   have := r0.put p.1 h.2
   rw [← h.1]; exact this
  exact ih e
theorem QdW : ∀ (more kvs : List (Key × V)), (QhD kvs more).length ≤ kvs.length + more.length
 | [], kvs => by show kvs.length ≤ kvs.length + 0; omega
 | p :: r, kvs => by
  have h1 := QdW r (Qci kvs p.1 p.2)
  have h2 := Qb4 kvs p.1 p.2
  show (QhD (Qci kvs p.1 p.2) r).length ≤ _
  rw [List.length_cons]; omega
theorem Qgx {P : Program} {w : World} : ∀ {kvs : List (Key × V)} {ws : List (Value × Value)}, VV (kvs.map fun kv => (kV kv.1, kv.2)) ws → ∃ rs, Carries (QS P w) ws rs ∧ KV kvs rs
 | [], _, r => by rw [List.map_nil] at r; cases r; exact ⟨[], True.intro, .nil⟩
 | p :: kvs, _, r => by
  rw [List.map_cons] at r
  cases r with
  | @cons a b as bs h t =>
   obtain ⟨rs, c, q⟩ := Qgx (P := P) (w := w) t
   obtain ⟨b1, b2⟩ := b
   exact ⟨(p.1, b2) :: rs, ⟨QfL h.1, rfl, c⟩, .cons ⟨rfl, h.2⟩ q⟩
def tDisp (trs : List (TE × TE)) : TE := fun σ H Q => ∀ p, H p = none → QjU trs σ (upd H p (.dK [])) fun ps H2 => H2 p = some (.dK []) ∧ ∃ kvs : List (Key × V), ps = kvs.map (fun kv => (kV kv.1, kv.2)) ∧ kvs.length ≤ 15 ∧ Q (.ref p) (upd H2 p (.dK (QhD [] kvs)))
theorem QmS {X : Cx} {pos : Pos} {keys : List (Option Expr)} {values : List Expr} {trs : List (TE × TE)} (h : PPs X pos keys values trs) (hall : keys.all (·.isSome) = true) (hl : keys.length = values.length) (h0 : keys ≠ [])
  (h15 : keys.length ≤ 15) : PE X (.Dict keys values pos) (tDisp trs) := by
 intro pins s σ H Q I q
 have hn := I.hok.fresh (Nat.le_refl s.heap.objs.size)
 have I1 := I.laid (a := s.heap.objs.size) (o := .dK []) (h' := s.heap.push { cls := .type "dict", data := .dict #[] }) (t' := s.toks) (fun _ _ q => Heap.get?_push_of_some _ q) (Nat.le_refl _) (Qi5 s.heap I.big)
 refine wpAny_Dict_walk (knd := QS X.prog X.w) hall hl h0 h15 (thn (h pins _ σ _ _ I1 (q _ hn)) fun ws s2 ⟨ps, H2, I2, rel, e, kvs, ep, lk, q2⟩ => ?_)
 subst ep
 obtain ⟨rs, c, rk⟩ := Qgx (P := X.prog) (w := X.w) rel
 obtain ⟨z, hd, vs0, r0, dd⟩ := Qk4 I2.hok e
 cases r0
 refine ⟨rs, c, dd, fun h' dd' hs => ⟨.ref s.heap.objs.size, _, ?_, rfl, q2⟩⟩
 have hz : (QhD [] kvs).length ≤ sizeLine := by
  have h1 := QdW kvs []
  rw [List.length_nil] at h1
  rw [sizeLine_eq]; omega
 have he : ∃ q, h'.get? s.heap.objs.size = some q := let ⟨q, _, _, hq, _⟩ := dd'; ⟨q, hq⟩
 exact QfN I2 (by rw [e]; exact True.intro) hs he (QhR hz hd (rk.merge .nil) dd')
structure M1 (X : Cx) (o : Expr) (m : Str) (apos : Pos) (e : Expr) (cpos : Pos) : Prop where
 base : attributeBase o m X.env (eval o X.env) = eval o X.env
 few : ((backTo cpos (starEach [e] X.env)).all (fun x => !x.1) && (backToKw cpos (keywordEach [] X.env)).all (fun x => x.1.isSome)
  && decide (([e] : List Expr).length + ([] : List Keyword).length + (if ([] : List Keyword).isEmpty then 0 else 1) < 30)) = true
 line : (apos.endLine == cpos.line) = true
 trees : backTo cpos (starEach [e] X.env) = [(false, eval e X.env)]
structure M2 (X : Cx) (o : Expr) (m : Str) (apos : Pos) (e f : Expr) (cpos : Pos) : Prop where
 base : attributeBase o m X.env (eval o X.env) = eval o X.env
 few : ((backTo cpos (starEach [e, f] X.env)).all (fun x => !x.1) && (backToKw cpos (keywordEach [] X.env)).all (fun x => x.1.isSome)
  && decide (([e, f] : List Expr).length + ([] : List Keyword).length + (if ([] : List Keyword).isEmpty then 0 else 1) < 30)) = true
 line : (apos.endLine == cpos.line) = true
 trees : backTo cpos (starEach [e, f] X.env) = [(false, eval e X.env), (false, eval f X.env)]
def IsD (H : Hp) (a : Addr) : Prop := (∃ kvs, Rd H a (.dK kvs)) ∨ ∃ kvs, Rd H a (.dT kvs)
theorem QkP {X : Cx} {pins : Pn} {σ : St} {H : Hp} {s : Shared} {a : Addr} (I : Inv X pins σ H s) (d : IsD H a) :
  s.TypeIs (.ref a) "dict" ∧ (∀ b, Value.ref a = .ref b → ∃ ob, s.heap.get? b = some ob ∧ ob.dict = none) ∧ (a == sysModules) = false := by
 rcases d with ⟨kvs, e⟩ | ⟨kvs, e⟩
 ·obtain ⟨_, hd, vs, _, dd⟩ := QhQ I.hok e
  refine ⟨dd.typeIs, fun b q => ?_, hd⟩
  cases q
  obtain ⟨ob, _, _, h1, h2, _⟩ := dd
  exact ⟨ob, h1, h2.2.1⟩
 ·obtain ⟨_, hd, xs, _, dd⟩ := Qiv I.hok e
  refine ⟨dd.typeIs, fun b q => ?_, hd⟩
  cases q
  obtain ⟨ob, _, _, h1, h2, _⟩ := dd
  exact ⟨ob, h1, h2.2.1⟩
section
variable {X : Cx} {pins : Pn} {σ : St} {H : Hp} {s : Shared} {a : Addr} {y d : V} {u r : Value} {o : Option V} {A : Around} {E : Value → Shared → Prop}
theorem d_get2 {Q : Value → Shared → Prop} (hu : A.units + 1 < cLine) (I : Inv X pins σ H s) (g : DGet H a y o) (ry : RelV y u) (rd : RelV d r) (h : ∀ w' s', Inv X pins σ H s' → RelV (o.getD d) w' → Q w' s') :
  wpAny (model X.prog X.w) A (call (.builtin "dict.get") [.ref a, u, r]) Q E s := by
 rcases g with ⟨kvs, k, e, ey, l⟩ | ⟨kvs, k, b, e, ey, eb, l⟩
 ·subst ey
  obtain ⟨z, hd, vs, rel, dd⟩ := QhQ I.hok e
  refine call_meetsIn PySem.F.slot_dict_get dd.typeIs PySem.F.entry_dict_get (PySem.F.args_dict_get_3 _ _ _) (meets_dict_get_default (QS X.prog X.w) a (QfL ry) hd r) ⟨_, dd.mapOf, h _ _ (I.tok _) ?_⟩
  rw [l]
  exact (rel.val k).getD rd
 ·subst ey
  cases (show u = Value.ref b from ry)
  obtain ⟨z, hd, xs, rel, dd⟩ := Qiv I.hok e
  refine call_meetsIn PySem.F.slot_dict_get dd.typeIs PySem.F.entry_dict_get (PySem.F.args_dict_get_3 _ _ _) (meetsH_dict_get_default (tupleKind (QS X.prog X.w)) a b hd r) ⟨tupleKind_room_in1 hu, k, xs, Qgq I.hok eb, dd, h _ _ (I.tok _) ?_⟩
  rw [l]
  exact (rel.val k).getD rd
end
def tDGet2 (td ty tx : TE) : TE := fun σ H Q => td σ H fun x H1 => ∃ a, x = .ref a ∧ IsD H1 a ∧ ty σ H1 fun y H2 => tx σ H2 fun z H3 => ∃ o, DGet H3 a y o ∧ Q (o.getD z) H3
def tDPop1 (td ty : TE) : TE := fun σ H Q => td σ H fun x H1 => ∃ a, x = .ref a ∧ IsD H1 a ∧ ty σ H1 fun y H2 => ∃ kvs k v, H2 a = some (.dK kvs) ∧ y = kV k ∧ Qa2 kvs k = some v ∧ Q v (upd H2 a (.dK (Qek kvs k)))
section
variable {X : Cx} {o e f : Expr} {apos cpos : Pos} {td ty tx : TE}
theorem Qlz (hu : X.A.units + 1 < cLine) (ho : PE X o td) (he : PE X e ty) (hf : PE X f tx) (m : M2 X o "get" apos e f cpos) : PE X (.Call (.Attribute o "get" apos) [e, f] [] cpos) (tDGet2 td ty tx) := by
 intro pins s σ H Q I h
 refine wpAny_Call_method m.base m.few m.line PySem.F.plainAttrs_dict PySem.F.slot_dict_get PySem.F.type_dict_get (thn (ho pins s σ H _ I h) fun u s1 ⟨x, H1, I1, rx, a, ex, d, q1⟩ => ?_)
 subst ex
 obtain rfl : u = Value.ref a := rx
 obtain ⟨t1, t2, _⟩ := QkP I1 d
 refine ⟨t1, t2, ?_⟩
 rw [m.trees]
 refine Calls.callWith_builtin rfl (Calls.evalArgs_plain (Calls.spliced_cons (thn (he pins s1 σ H1 _ I1 q1) fun iv s2 ⟨y, H2, I2, ry, q2⟩ =>
  Calls.spliced_cons (thn (hf pins s2 σ H2 _ I2 q2) fun fv s3 ⟨z, H3, I3, rz, ov, g, q3⟩ => Calls.spliced_nil ?_))))
 exact d_get2 hu I3 g ry rz fun w' s4 I4 rw' => ⟨_, H3, I4, rw', q3⟩
theorem QiU (ho : PE X o td) (he : PE X e ty) (m : M1 X o "pop" apos e cpos) : PE X (.Call (.Attribute o "pop" apos) [e] [] cpos) (tDPop1 td ty) := by
 intro pins s σ H Q I h
 refine wpAny_Call_method m.base m.few m.line PySem.F.plainAttrs_dict PySem.F.slot_dict_pop PySem.F.type_dict_pop (thn (ho pins s σ H _ I h) fun u s1 ⟨x, H1, I1, rx, a, ex, d, q1⟩ => ?_)
 subst ex
 obtain rfl : u = Value.ref a := rx
 obtain ⟨t1, t2, _⟩ := QkP I1 d
 refine ⟨t1, t2, ?_⟩
 rw [m.trees]
 refine Calls.callWith_builtin rfl (Calls.evalArgs_plain (Calls.spliced_cons (thn (he pins s1 σ H1 _ I1 q1) fun iv s2 ⟨y, H2, I2, ry, kvs, k, v, ea, ey, l, q2⟩ => Calls.spliced_nil ?_)))
 subst ey
 exact d_pop I2 ea ry l (.inl rfl) fun w' s3 I3 rw' => ⟨v, _, I3, rw', q2⟩
end
section
variable {X : Cx} {pins : Pn} {σ : St} {H : Hp} {s : Shared} {a : Addr} {kvs : List (Key × V)} {A : Around} {E : Value → Shared → Prop}
end
section
variable {X : Cx} {pins : Pn} {σ : St} {H : Hp} {s : Shared} {a : Addr} {y : V} {u : Value} {A : Around} {E : Value → Shared → Prop}
end
end L2
namespace Att
open PySem PySem.W PySem.Calls PyProof.Rows
theorem QfM {P : Params} {h : Heap} : ∀ (ns : List Int) (vs : List Value), WellAll P h vs (ns.map WData.int) → IntsAre vs ns := by
 intro ns
 induction ns with
 | nil =>
  intro vs w
  rw [List.map_nil] at w
  cases w
  exact .nil
 | cons n ns ih =>
  intro vs w
  rw [List.map_cons] at w
  cases w with
  | cons a b =>
   cases a
   exact .cons _ _ (ih _ b)
theorem Qkg {l : OpenLaw} {n : Nat} (hn : l.most = some n) {P : Params} {h : Heap} {args : List WData} {vals : List Value}
  (hpre : l.row.toRowW.claim.pre args = true) (hwl : WellAll P h vals args) :
  ∃ a vs ns, vals = [Value.ref a] ∧ args = [WData.list (ns.map WData.int)] ∧ h.get? a = some { cls := .type "list", data := .seq vs.toArray } ∧ IntsAre vs ns ∧ ns.length ≤ n := by
 have hsh : WShape.hasAll [] args [.list .int] = true := (pre_splitW hpre).1
 have hc : l.pre.holds [] { args := args } = true := (pre_splitW hpre).2
 obtain ⟨d, r, rfl, h1, h2⟩ := hasAllW_cons hsh
 obtain rfl := hasAllW_nil h2
 obtain ⟨xs, rfl, h3⟩ := hasW_list h1
 obtain ⟨ns, rfl⟩ := items_int h3
 have hlen : ns.length ≤ n := by
  unfold OpenLaw.pre at hc
  have h4 : (WTm.not (.lt (.lit (.int (n : Int))) (.len (.arg 0)))).holds [] { args := [.list (ns.map .int)] } = true := by
   have h4 := (holds_andW hc).1
   rw [hn] at h4
   exact h4
  have h5 := condW_of h4 (w_not (w_lt w_lit (w_len_list (w_arg rfl))))
  rw [List.length_map] at h5
  refine Nat.le_of_not_lt fun q => ?_
  have q' : (n : Int) < ((ns.length : Nat) : Int) := by omega
  first
   | (rw [decide_eq_true q'] at h5; exact absurd h5 (by decide))
   | (simp at h5; omega)
 cases hwl with
 | cons w1 w2 =>
  cases w2
  cases w1 with
  | list ho hall => exact ⟨_, _, ns, rfl, rfl, ho, QfM ns _ hall, hlen⟩
theorem Qkp (l : OpenLaw) (args : List WData) : l.row.toRowW.claim.post args (.bool true) args = true :=
 postW_of (r := l.row.toRowW) (X := (true == true))
  (show WShape.has [] (.bool true) .bool = true by first | rfl | decide | simp [WShape.has, WShape.arms, WShape.armsAll])
  (show (WTm.eq .res (.lit (.bool true))).value [] { args := args, res := some (.bool true), after := args } = some (.bool (true == true)) from w_eq_bool (w_res rfl) w_lit) rfl
theorem attach_call {l : OpenLaw} {n : Nat} {q : Program} {loose : List Str} {XP : (Str → Option Value) → Heap → Prop} {YP : World → Heap → Prop} {d : DefRec}
  (hn : l.most = some n) (hdf : d.params.defaults = [])
  (call : ∀ (w : World) (s₀ s₁ : Shared) (mg mb : Str → Option Value) (fa : Addr) (o : Obj) (pm cd doc : Value) (a : Addr) (vs : List Value) (ns : List Int),
   Ground q loose [] XP w s₀ mg mb s₁.heap → YP w s₁.heap →
   s₁.heap.get? fa = some o → o.data = .func (docDef d.name d.params d.body d.scope pm cd doc) → s₁.heap.CodeRec cd d.name → mg d.name = some (.ref fa) →
   s₁.heap.get? a = some { cls := .type "list", data := .seq vs.toArray } → IntsAre vs ns → ns.length ≤ n → s₁.gens = #[] →
   codeAny (model l.prog w) callerA (.call (.ref fa) ⟨[.ref a], []⟩) (fun r s' => r = .ok (.ret (.bool true)) ∧ OldK s₁.heap s'.heap ∧ s'.os = s₁.os ∧ AllBare s'.gens) s₁) :
  WalkO q loose XP YP l.row.toRowW d [] (fun f vs => PySem.call f vs) := by
 intro w s₀ s₁ mg mb G Y fa o pm cd doc dV kV ho hd hcd hD hmg hg args vals as hpre hlay hrd hwl hlo
 obtain rfl : dV = .none := Dflts.none hD hdf
 obtain rfl : kV = .none := Dflts.noKw hD
 obtain ⟨a, vs, ns, rfl, rfl, hobj, hints, hlen⟩ := Qkg hn hpre hwl
 refine enter_call (codeAny_mono (call w s₀ s₁ mg mb fa o pm cd doc a vs ns G Y ho (fd_plain hd) hcd hmg hobj hints hlen hg) fun r s' hq => ?_)
 obtain ⟨rfl, h2, h3, h4⟩ := hq
 exact ⟨.inl ⟨.bool true, .bool true, [], rfl, fun _ => rfl, .bool true, Qkp l _, fun _ => ⟨List.Pairwise.nil, fun _ hm => (nomatch hm)⟩⟩, h2, h3, h4⟩
section
variable {prog : Program} {w : World} {A : Around} {E : Value → Shared → Prop} {s : Shared} {K : Frag}
def ledger (h : Heap) (L d : Addr) : Pn := (List.range h.objs.size).filterMap fun a => if a = L ∨ a = d then none else (h.get? a).map fun o => (a, o)
end
end Att
namespace L2
open PySem PySem.Spec PyProof.Rows
theorem Qhi : ∀ {vs : List Value} {ns : List Int}, IntsAre vs ns → Vals (ns.map V.int) vs
 | _, _, .nil => .nil
 | _, _, .cons n t h => .cons ⟨t, rfl⟩ (Qhi h)
def Only (H : Hp) : Prop := ∀ b, H b = none ∨ ∃ o xs, H b = some (.frz o (.lst xs))
theorem QlK {P : Program} {w : World} {K : Fg} {mg mb : Str → Option Value} {CX : CXT} {k : Nat} {fa a : Addr} {fd : FuncData} {x : Str} {sp : Sp} {s₁ : Shared} {vs : List Value} {ns : List Int}
  (KX : K.In s₁.heap) (hns : s₁.heap.Ns mainGlobals mg) (hb : s₁.heap.Ns builtinsNs mb) (hbb : ∀ x : Str, x ≠ "__name__" → mb x = bootBuiltins x) (hlim : s₁.heap.NoLimit) (hg : s₁.gens = #[])
  (ha : s₁.heap.get? a = some { cls := .type "list", data := .seq vs.toArray }) (hi : IntsAre vs ns) (hl : ns.length ≤ sizeLine) (hr : Room k callerA)
  (F : ∀ base : Heap, K.In base → base.Ns mainGlobals mg → FnOk P w K mg base CX k fa fd [x] sp) (hbind : ∀ (s : Shared) (u : Value), BindsTo s fd ⟨[u], []⟩ [(x, u)])
  (hsp : ∀ H : Hp, Only H → SqL K H a (ns.map V.int) → sp [.ref a] H (fun v _ => v = .bl true) fun _ _ _ => False)
  (hCX : ∀ H e s', CX [] H s₁ (fun _ _ _ => False) e s' → False) :
  codeAny (model P w) callerA (.call (.ref fa) ⟨[.ref a], []⟩) (fun r s' => r = .ok (.ret (.bool true)) ∧ OldK s₁.heap s'.heap ∧ s'.os = s₁.os ∧ AllBare s'.gens) s₁ := by
 have rv := Qhi hi
 have lenV := hi.length
 have core : ∀ H : Hp, Only H → SqL K H a (ns.map V.int) → HOk P w H s₁.heap → (∀ b, H b ≠ none → b = a) → (H a ≠ none → K.lookup a = none) →
   codeAny (model P w) callerA (.call (.ref fa) ⟨[.ref a], []⟩) (fun r s' => r = .ok (.ret (.bool true)) ∧ OldK s₁.heap s'.heap ∧ s'.os = s₁.os ∧ AllBare s'.gens) s₁ := by
  intro H hO hS hok hA hK
  have base_of : ∀ {b : Addr} {o : Obj}, s₁.heap.get? b = some o → H b = none → (QlN s₁.heap H).get? b = some o := fun e n => QlM e n
  have noA : ∀ {b : Addr} {o : Obj} {es : Array DictEntry} {ep : Nat}, s₁.heap.get? b = some o → o.data = .dict es ep → H b = none := fun {b o es ep} e d => by
   cases q : H b with
   | none => rfl
   | some u =>
    have e' : b = a := hA b (by rw [q]; simp)
    subst e'
    rw [ha] at e; cases e
    have d' : Data.seq vs.toArray _ = Data.dict es ep := d
    cases d'
  have nsK : ∀ {b : Addr} {m : Str → Option Value}, s₁.heap.Ns b m → (QlN s₁.heap H).Ns b m := fun {b m} ⟨o, es, ep, e, d, r⟩ => ⟨o, es, ep, base_of e (noA e d), d, r⟩
  have hKb : K.In (QlN s₁.heap H) := fun b o e => base_of (KX b o e) (by
   cases q : H b with
   | none => rfl
   | some u =>
    have e' : b = a := hA b (by rw [q]; simp)
    subst e'
    rw [hK (by rw [q]; simp)] at e; cases e)
  have hM : Mod K mg (QlN s₁.heap H) := ⟨hKb, nsK hns, ⟨mb, nsK hb, hbb⟩, let ⟨mc, h1, h2⟩ := hlim; ⟨mc, nsK h1, h2⟩⟩
  have e0 : Env0 P w K mg (QlN s₁.heap H) callerA [] s₁ H := ⟨rfl, hM, fun b o e => QmU e, Nat.le_of_eq (QkS _ _), trivial, fun b hb => absurd (show b ∈ ([] : List Addr) from hb) (by simp), hok, .of_eq hg⟩
  refine codeAny_mono ((F _ hKb (nsK hns)).run callerA [] s₁ H ⟨[.ref a], []⟩ [.ref a] [.ref a] _ _ hr e0 (hbind s₁ (.ref a)) (.cons rfl .nil) (hsp H hO hS)) fun r s' h => ?_
  cases r with
  | error e => exact (hCX H e s' h).elim
  | ok fl =>
   cases fl with
   | next => exact False.elim h
   | brk => exact False.elim h
   | cont => exact False.elim h
   | ret u =>
    obtain ⟨v, H', os, bare, un, hok', r', q⟩ := h
    have q' : v = .bl true := q
    subst q'
    obtain rfl : u = Value.bool true := r'
    refine ⟨rfl, OldK.of_keep fun b o e => ?_, os, bare⟩
    cases q : H b with
    | none => exact un.keep b o e q (by intro z; exact absurd (show b ∈ ([] : List Addr) from z) (by simp)) (by simp)
    | some u =>
     rcases hO b with z | ⟨ob, xs, z⟩
     ·rw [q] at z; cases z
     ·have z2 := un.frzs b ob _ z
      obtain ⟨e1, _⟩ := hok b _ z
      obtain ⟨e2, _⟩ := hok' b _ z2
      rw [e] at e1; cases e1
      exact e2
 cases hk : K.lookup a with
 | some o =>
  have e := KX a o hk
  rw [ha] at e
  cases e
  refine core (fun _ => none) (fun _ => .inl rfl) (.inr ⟨_, vs.toArray, _, hk, rfl, rfl, rfl, by rw [List.size_toArray, lenV]; exact hl, by simpa using rv⟩) (fun b u z => by have z' : (none : Option HO) = some u := z; cases z') (fun b z => absurd rfl z) fun z => absurd rfl z
 | none =>
  refine core (fun b => if b = a then some (.frz { cls := .type "list", data := .seq vs.toArray } (.lst (ns.map V.int))) else none) (fun b => ?_) (.inl (.inr ⟨{ cls := .type "list", data := .seq vs.toArray }, if_pos rfl⟩)) (fun b u z => ?_) (fun b z => ?_) fun _ => hk
  ·by_cases hb : b = a
   ·exact .inr ⟨_, _, if_pos hb⟩
   ·exact .inl (if_neg hb)
  ·by_cases hb : b = a
   ·have z' := (if_pos hb).symm.trans z
    cases z'
    subst hb
    exact ⟨ha, by rw [List.length_map]; exact hl, vs, _, rv, ha⟩
   ·have z' := (if_neg hb).symm.trans z
    cases z'
  ·by_cases hb : b = a
   ·exact hb
   ·exact absurd (if_neg hb) z
end L2
namespace L2
open PySem PySem.Spec PyProof.Rows
theorem walk_of {l : PySem.W.OpenLaw} {n k : Nat} {q : Program} {loose : List Str} {XP : (Str → Option Value) → Heap → Prop} {YP : World → Heap → Prop} {d : DefRec} {K : Params → Fg} {CX : World → CXT} {sp : World → Sp} {x : Str}
  (hn : l.most = some n) (hn2 : n ≤ sizeLine) (hdf : d.params.defaults = []) (hr : Room k callerA)
  (hY : ∀ (w : World) (h : Heap), YP w h → (K w.params).In h)
  (F : ∀ (w : World) (mg : Str → Option Value) (fa : Addr) (h : Heap), (K w.params).In h → h.Ns mainGlobals mg → mg d.name = some (.ref fa) →
   ∃ fd : FuncData, (∀ (s : Shared) (u : Value), BindsTo s fd ⟨[u], []⟩ [(x, u)]) ∧
    ∀ base : Heap, (K w.params).In base → base.Ns mainGlobals mg → FnOk l.prog w (K w.params) mg base (CX w) k fa fd [x] (sp w))
  (hsp : ∀ (w : World) (H : Hp) (a : Addr) (ns : List Int), ns.length ≤ n → Only H → SqL (K w.params) H a (ns.map V.int) → sp w [.ref a] H (fun v _ => v = .bl true) fun _ _ _ => False)
  (hCX : ∀ (w : World) (H : Hp) (s : Shared) (e : Value) (s' : Shared), CX w [] H s (fun _ _ _ => False) e s' → False) :
  PySem.W.WalkO q loose XP YP l.row.toRowW d [] (fun f vs => PySem.call f vs) := by
 refine Att.attach_call hn hdf fun w s₀ s₁ mg mb fa o pm cd doc a vs ns G Y ho hd hcd hmg hobj hints hlen hg => ?_
 have KX := hY w _ Y
 obtain ⟨fd, hb, hF⟩ := F w mg fa _ KX G.T.g hmg
 exact QlK KX G.T.g G.T.b G.T.builtins G.T.nolimit hg hobj hints (Nat.le_trans hlen hn2) hr hF hb (fun H hO hS => hsp w H a ns hlen hO hS) fun H e s' => hCX w H s₁ e s'
end L2
namespace L2
open PySem PySem.Spec PyProof.Rows
def QF (s : Stmt) (j : Nat) : Stmt := match s with
 | .ClassDef _ _ _ body _ _ _ _ _ _ _ => body.getD j (.Pass ⟨0, 0, 0, 0⟩)
 | _ => .Pass ⟨0, 0, 0, 0⟩
def QT (s : Stmt) : Arguments := match s with
 | .FunctionDef _ a _ _ _ _ _ _ _ _ => a
 | _ => { posonlyargs := [], args := [], vararg := none, kwonlyargs := [], kw_defaults := [], kwarg := none, defaults := [] }
def Qr (s : Stmt) : List Stmt := match s with
 | .FunctionDef _ _ b _ _ _ _ _ _ _ => b
 | _ => []
def Qg (s : Stmt) : Scope := match s with
 | .FunctionDef _ _ _ _ _ _ sc _ _ _ => sc
 | _ => { kind := .function, names := [], isGenerator := false, isCoroutine := false }
abbrev CX0 : CXT := fun _ _ _ _ _ _ => False
abbrev E0 : XK := fun _ _ _ => False
theorem Qig {X : Cx} : QeA CX0 X E0 := fun _ _ _ _ _ _ _ h => h.elim
structure Fun (K : Fg) (x qual : Str) (st : Stmt) (f : Addr) (fd : FuncData) : Prop where
 ex : ∃ (oc : Value) (od : Option Addr) (kV doc pm : Value) (an : Option Addr) (cdv ct : Value) (osl : Array (Option Value)),
  fd = PySem.W.fnOf x qual (QT st) (Qr st) (Qg st) .none kV doc pm an cdv ct ∧ K.lookup f = some ⟨oc, od, .func fd, osl⟩ ∧ PySem.W.codeIn K cdv qual = true
 kp : PySem.W.keepIn K (.ref f) = true
section
variable {P : Program} {w : World} {K : Fg} {mg : Str → Option Value} {base : Heap}
theorem Fun.ok {x qual : Str} {st : Stmt} {f : Addr} {fd : FuncData} {N ps : List Str} {k : Nat} {sp : Sp} (F : Fun K x qual st f fd) (S : Qm N ps (Qg st)) (len : ∀ vs H Q E, sp vs H Q E → vs.length = ps.length)
  (hbody : ∀ (cdv : Value) (A : Around) (outer : List Env) (s : Shared) (H : Hp) (vs : List V) (Q : VK) (E : XK), Room k (A.deeper (envOfC qual (Qg st) s.heap.objs.size f cdv)) → sp vs H Q E →
   ∃ t, PSs (Qli CX0 P w K mg base N qual (Qg st) f cdv A outer s H E).nox (Qr st) t ∧ t { nx := fun _ H' => Q .non H', rt := Q } (start N vs) H) : FnOk P w K mg base CX0 (k + 1) f fd ps sp := by
 obtain ⟨oc, od, kV, doc, pm, an, cdv, ct, osl, rfl, lk, hcd⟩ := F.ex
 refine QlQ lk hcd S len fun A outer s H vs Q E hr hsp => ?_
 obtain ⟨t, h, q⟩ := hbody cdv A outer s H vs Q E hr hsp
 exact ⟨t, h.nox, q⟩
theorem Fun.binds {x qual : Str} {st : Stmt} {f : Addr} {fd : FuncData} {ps : List Str} (F : Fun K x qual st f fd)
  (h : ∀ (kV doc pm : Value) (an : Option Addr) (cdv ct : Value) (us : List Value), us.length = ps.length → bindArgs (PySem.W.fnOf x qual (QT st) (Qr st) (Qg st) .none kV doc pm an cdv ct) ⟨us, []⟩ = pure (ps.zip us)) : Binds K fd ps [] := by
 obtain ⟨oc, od, kV, doc, pm, an, cdv, ct, osl, rfl, lk, hcd⟩ := F.ex
 exact .all (h kV doc pm an cdv ct)
theorem QkV {x qual : Str} {st : Stmt} {f : Addr} {oc : Value} {od an : Option Addr} {osl : Array (Option Value)} {kV doc pm cdv ct : Value} (l : K.lookup f = some ⟨oc, od, .func (PySem.W.fnOf x qual (QT st) (Qr st) (Qg st) .none kV doc pm an cdv ct), osl⟩)
  (c : PySem.W.codeIn K cdv qual = true) (k : PySem.W.keepIn K (.ref f) = true) : Fun K x qual st f (PySem.W.fnOf x qual (QT st) (Qr st) (Qg st) .none kV doc pm an cdv ct) := ⟨⟨oc, od, kV, doc, pm, an, cdv, ct, osl, rfl, l, c⟩, k⟩
end
theorem Qu {A : Around} {k : Nat} (hr : Room k A) : A.units + 1 < cLine := Nat.lt_of_le_of_lt (Nat.add_le_add_left (by decide : 1 ≤ 64) _) hr.units
theorem QO {n : Nat} (h : n ≤ 1000) : n < sizeLine := Nat.lt_of_le_of_lt h (by decide)
section
variable {X : Cx}
theorem pv (i : Nat) {x : Str} {pos : Pos} (hN : X.N[i]? = some x := by rfl) (hv : Vis X.env.scope x := by first | exact Or.inl rfl | exact Or.inr (Or.inl rfl) | exact Or.inr (Or.inr rfl)) (hd : (x == ("__debug__" : Str)) = false := by decide)
  (hcd : (x == ("__classdict__" : Str)) = false := by decide) : PE X (.Name x pos) (tVar i) := pe_var hN hv hd hcd
theorem QhV : QfU X (.builtin "len") (fun xs H Q => ∃ a kvs, xs = [V.ref a] ∧ H a = some (.dK kvs) ∧ Q (.int kvs.length) H) := by
 intro pins s σ H xs us Q I r h
 obtain ⟨a, kvs, rfl, ha, q⟩ := h
 obtain ⟨u, rfl, ru⟩ := Qhj r
 cases ru
 exact d_len I (.inl ha) fun t s' I' => ⟨.int kvs.length, H, I', ⟨t, rfl⟩, q⟩
end
theorem Qbg {A B : Prop} (h : B) : if false = true then A else B := by
 rw [if_neg Bool.false_ne_true]
 exact h
theorem QaK {A B : Prop} (h : A) : if true = true then A else B := by
 rw [if_pos rfl]
 exact h
theorem Qgr {c A B : Prop} [Decidable c] (h1 : c → A) (h2 : ¬ c → B) : if c then A else B := by
 by_cases h : c
 ·rw [if_pos h]
  exact h1 h
 ·rw [if_neg h]
  exact h2 h
theorem QkN {c A B : Prop} [Decidable c] (hc : c) (h : B) : if (!decide c) = true then A else B := by
 rw [decide_eq_true hc]
 exact Qbg h
def Same (H H' : Hp) : Prop := ∀ b o, H b = some o → H' b = some o
theorem Same.refl (H : Hp) : Same H H := fun _ _ h => h
theorem Same.trans {H H1 H2 : Hp} (a : Same H H1) (b : Same H1 H2) : Same H H2 := fun c o h => b c o (a c o h)
theorem Same.free {H H' : Hp} (e : Same H H') {l : Addr} (h : H' l = Option.none) : H l = Option.none := by
 cases q : H l with
 | none => rfl
 | some o =>
  rw [e l o q] at h
  cases h
section
variable {κ : Type} [DecidableEq κ]
theorem QiD {kvs : List (κ × V)} {k : κ} (h : Qa2 kvs k = none) : ¬ k ∈ kvs.map (·.1) := by
 intro m
 obtain ⟨p, hp, e⟩ := List.mem_map.mp m
 have q : (kvs.any fun kv => decide (kv.1 = k)) = true := List.any_eq_true.mpr ⟨p, hp, decide_eq_true e⟩
 rw [QcO, h] at q
 exact absurd q (by simp)
theorem Qh5 {kvs : List (κ × V)} {k : κ} {v : V} (h : Qa2 kvs k = some v) : k ∈ kvs.map (·.1) := by
 have q : (kvs.any fun kv => decide (kv.1 = k)) = true := by
  rw [QcO, h]
  all_goals rfl
 obtain ⟨p, hp, e⟩ := List.any_eq_true.mp q
 exact List.mem_map.mpr ⟨p, hp, of_decide_eq_true e⟩
theorem QcF : ∀ {l : List κ} {k : κ}, l.Nodup → ¬ k ∈ l → (l ++ [k]).Nodup
 | [], k, _, _ => by simp
 | a :: r, k, h, hk => by
  obtain ⟨h1, h2⟩ := List.nodup_cons.mp h
  show (a :: (r ++ [k])).Nodup
  refine List.nodup_cons.mpr ⟨fun m => ?_, QcF h2 fun m => hk (List.mem_cons.mpr (Or.inr m))⟩
  rcases List.mem_append.mp m with q | q
  ·exact h1 q
  ·exact hk (List.mem_cons.mpr (Or.inl (List.mem_singleton.mp q).symm))
theorem Qk1 {p : κ × V} {r : List (κ × V)} {k : κ} (e : p.1 = k) : Qek (p :: r) k = Qek r k := by
 unfold Qek
 rw [List.filter_cons, if_neg (by simp [e])]
theorem QhP {p : κ × V} {r : List (κ × V)} {k : κ} (e : ¬ p.1 = k) : Qek (p :: r) k = p :: Qek r k := by
 unfold Qek
 rw [List.filter_cons, if_pos (by simp [e])]
theorem Qi3 : ∀ {kvs : List (κ × V)} {k : κ}, ¬ k ∈ kvs.map (·.1) → Qek kvs k = kvs
 | [], _, _ => rfl
 | p :: r, k, h => by
  have h' : ¬ k ∈ r.map (·.1) := fun m => by
   obtain ⟨q, hq, e⟩ := List.mem_map.mp m
   exact h (List.mem_map.mpr ⟨q, List.mem_cons.mpr (Or.inr hq), e⟩)
  rw [QhP fun e => h (List.mem_map.mpr ⟨p, List.mem_cons.mpr (Or.inl rfl), e⟩), Qi3 h']
end
end L2
namespace L2
open PySem PySem.Spec PyProof.Rows
theorem Qgv {α β : Type} {f : α → β → Sem (ForInStep β)} (g : α → β → β) : ∀ (l : List α) (c : β), (∀ x ∈ l, ∀ c, f x c = pure (.yield (g x c))) → forIn l c f = pure (l.foldl (fun c x => g x c) c)
 | [], _, _ => rfl
 | x :: l, c, h => by
  rw [List.forIn_cons, h x List.mem_cons_self, pure_bind]
  exact Qgv g l (g x c) fun y hy => h y (List.mem_cons_of_mem _ hy)
def Qb7 (env : Env) (y : Str × NameKind) (cs : List (Str × Addr)) : List (Str × Addr) := if (y.2 == NameKind.free) = true then (y.1, (env.cells.lookup y.1).getD 0) :: cs else cs
def Qdd (env : Env) (l : List (Str × NameKind)) (cs : List (Str × Addr)) : List (Str × Addr) := l.foldl (fun cs y => Qb7 env y cs) cs
def Qd7 (env : Env) (l : List (Str × NameKind)) : Prop := ∀ y ∈ l, y.2 = .free → ∃ c, env.cells.lookup y.1 = some c
theorem Qix {sc : Scope} {env : Env} (h : Qd7 env sc.names) : closureFor sc env = pure (Qdd env sc.names []) := by
 simp only [closureFor]
 rw [Qgv (Qb7 env) sc.names [] (fun y hy cs => by
  obtain ⟨n, k⟩ := y
  unfold Qb7
  cases hk : (k == NameKind.free) with
  | false => simp only [hk, Bool.false_eq_true, if_false]
  | true =>
   obtain ⟨c, hc⟩ := h _ hy (by simpa using hk)
   have hc' : env.cells.lookup n = some c := hc
   simp only [hk, if_true, cellOf, hc']
   rfl)]
 rfl
theorem QfO {env : Env} : ∀ {l : List (Str × NameKind)} {cs : List (Str × Addr)} {y : Str} {c : Addr}, Qd7 env l → (Qdd env l cs).lookup y = some c → env.cells.lookup y = some c ∨ cs.lookup y = some c
 | [], _, _, _, _, h => .inr h
 | (n, k) :: r, cs, y, c, hl, h => by
  have h : (Qdd env r (Qb7 env (n, k) cs)).lookup y = some c := h
  have hr : Qd7 env r := fun z hz => hl z (List.mem_cons_of_mem _ hz)
  rcases QfO hr h with q | q
  ·exact .inl q
  ·unfold Qb7 at q
   by_cases e : (k == NameKind.free) = true
   ·rw [if_pos e] at q
    obtain ⟨c0, h0⟩ := hl (n, k) List.mem_cons_self (by simpa using e)
    have h0 : env.cells.lookup n = some c0 := h0
    rw [List.lookup_cons] at q
    cases e2 : (y == n) with
    | true =>
     rw [e2] at q
     have e3 : y = n := by simpa using e2
     subst e3
     left
     rw [h0] at q ⊢
     exact q
    | false =>
     rw [e2] at q
     exact .inr q
   ·rw [if_neg e] at q
    exact .inr q
theorem QdZ {env : Env} : ∀ {l : List (Str × NameKind)} {cs : List (Str × Addr)} {y : Str} {c : Addr}, env.cells.lookup y = some c → ((y, NameKind.free) ∈ l ∨ cs.lookup y = some c) → (Qdd env l cs).lookup y = some c
 | [], _, _, _, _, h => by
  rcases h with h | h
  ·cases h
  ·exact h
 | (n, k) :: r, cs, y, c, hc, h => by
  show (Qdd env r (Qb7 env (n, k) cs)).lookup y = some c
  refine QdZ hc ?_
  unfold Qb7
  by_cases e : (k == NameKind.free) = true
  ·rw [if_pos e]
   by_cases e2 : y = n
   ·subst e2
    right
    rw [List.lookup_cons]
    simp [hc]
   ·rcases h with h | h
    ·rcases List.mem_cons.mp h with q | q
     ·cases q; exact absurd rfl e2
     ·exact .inl q
    ·right
     rw [List.lookup_cons]
     have e3 : (y == n) = false := by simpa using e2
     rw [e3]
     exact h
  ·rw [if_neg e]
   rcases h with h | h
   ·rcases List.mem_cons.mp h with q | q
    ·cases q; exact absurd rfl e
    ·exact .inl q
   ·exact .inr h
theorem Qcx {env : Env} (hk : env.scope.kind = .function) : ∀ {names : List (Str × NameKind)} {y : Str}, names.lookup y = some .free → env.kindOf y = some .cell →
  (names.map fun (n, k) => if (k == NameKind.free && env.scope.kind == .function && env.kindOf n == some .cell) then (n, NameKind.cell) else (n, k)).lookup y = some .cell
 | [], _, h, _ => by simp at h
 | (n, k) :: r, y, h, hy => by
  have ih := @Qcx env hk r y
  show List.lookup y ((if (k == NameKind.free && env.scope.kind == .function && env.kindOf n == some .cell) = true then (n, NameKind.cell) else (n, k)) :: _) = _
  cases hx : y == n with
  | true =>
   simp only [List.lookup_cons, hx] at h
   have e3 : y = n := by simpa using hx
   subst e3
   cases h
   rw [if_pos (by rw [hk, hy]; rfl)]
   simp [List.lookup_cons]
  | false =>
   simp only [List.lookup_cons, hx] at h
   by_cases hc : (k == NameKind.free && env.scope.kind == .function && env.kindOf n == some .cell) = true
   ·rw [if_pos hc]; simp only [List.lookup_cons, hx]; exact ih h hy
   ·rw [if_neg hc]; simp only [List.lookup_cons, hx]; exact ih h hy
theorem Qan {env : Env} : ∀ {names : List (Str × NameKind)} {y : Str} {k' : NameKind},
  (names.map fun (n, k) => if (k == NameKind.free && env.scope.kind == .function && env.kindOf n == some .cell) then (n, NameKind.cell) else (n, k)).lookup y = some k' → names.lookup y = some k' ∨ names.lookup y = some .free
 | [], _, _, h => by simp at h
 | (n, k) :: r, y, k', h => by
  have h : List.lookup y ((if (k == NameKind.free && env.scope.kind == .function && env.kindOf n == some .cell) = true then (n, NameKind.cell) else (n, k)) :: r.map fun (n, k) => if (k == NameKind.free && env.scope.kind == .function && env.kindOf n == some .cell) then (n, NameKind.cell) else (n, k)) = some k' := h
  cases hx : y == n with
  | true =>
   simp only [List.lookup_cons, hx]
   by_cases hc : (k == NameKind.free && env.scope.kind == .function && env.kindOf n == some .cell) = true
   ·right
    have : (k == NameKind.free) = true := by
     simp only [Bool.and_eq_true] at hc
     exact hc.1.1
    have e : k = .free := by simpa using this
    rw [e]
   ·rw [if_neg hc] at h
    simp only [List.lookup_cons, hx] at h
    exact .inl h
  | false =>
   simp only [List.lookup_cons, hx]
   by_cases hc : (k == NameKind.free && env.scope.kind == .function && env.kindOf n == some .cell) = true
   ·rw [if_pos hc] at h; simp only [List.lookup_cons, hx] at h; exact Qan h
   ·rw [if_neg hc] at h; simp only [List.lookup_cons, hx] at h; exact Qan h
structure Qz (osc : Scope) (oN : List Str) (sc : Scope) (x : Str) (N : List Str) (fr : List Nat) : Prop where
 kind : sc.kind = .function
 nocell : ∀ y ∈ sc.names, y.2 ≠ .cell
 names : ∀ y ∈ sc.names, y.2 = .local → sc.names.lookup y.1 = some .local
 free : ∀ y ∈ sc.names, y.2 = .free → osc.names.lookup y.1 = some .cell
 xl : sc.names.lookup x = some .local
 nd : (x :: N).Nodup
 ix : fr.map (fun i => oN[i]?) = N.map some
 fk : ∀ y ∈ N, sc.names.lookup y = some .free
def blk (X : Cx) (sc : Scope) (N : List Str) (C : Addr) (ex : List Addr) (s : Shared) (H : Hp) : Cx where
 prog := X.prog
 w := X.w
 K := X.K
 mg := X.mg
 base := X.base
 A := X.A
 N := N
 s₀ := s
 H₀ := H
 env := compEnvC sc (Qdd X.env sc.names []) C X.env
 outer := X.stack
 stack := X.stack
 ex := ex
 fn := fun _ => false
 calm := X.calm
 pn := []
 xe := fun _ _ => False
section
variable {X : Cx} {pins : Pn} {σ : St} {H : Hp} {s : Shared} {sc : Scope} {x : Str} {N : List Str} {fr : List Nat} {C : Addr} {ex : List Addr}
theorem Inv.cells (I : Inv X pins σ H s) (S : Qz X.env.scope X.N sc x N fr) : Qd7 X.env sc.names := fun y hy hk => I.ok.has y.1 (.inl (S.free y hy hk))
theorem Inv.clos (I : Inv X pins σ H s) (S : Qz X.env.scope X.N sc x N fr) {y : Str} {c : Addr} (h : (Qdd X.env sc.names []).lookup y = some c) : X.env.cells.lookup y = some c := by
 rcases QfO (I.cells S) h with q | q
 ·exact q
 ·simp at q
theorem blk_ok (I : Inv X pins σ H s) (S : Qz X.env.scope X.N sc x N fr) (hC : s.heap.objs.size ≤ C) (hf : ∀ b ∈ ex, Qhe X pins H b) (hlt : ∀ b ∈ ex, b < s.heap.objs.size) : (blk X sc (x :: N) C ex s H).Ok where
 mod := I.ok.mod
 kind := S.kind
 glob := I.ok.glob
 blt := I.ok.blt
 above := hC
 inj := fun a b c h1 h2 => I.ok.inj a b c (I.clos S h1) (I.clos S h2)
 has := fun y hy => by
  have hfree : sc.names.lookup y = some .free := by
   rcases hy with hy | hy
   ·rcases Qan (env := X.env) (names := sc.names) hy with q | q
    ·exact absurd rfl (S.nocell _ (PySem.mem_of_lookup q))
    ·exact q
   ·rcases Qan (env := X.env) (names := sc.names) hy with q | q
    ·exact q
    ·exact q
  obtain ⟨c, hc⟩ := I.cells S (y, .free) (PySem.mem_of_lookup hfree) rfl
  exact ⟨c, QdZ hc (.inl (PySem.mem_of_lookup hfree))⟩
 cab := fun _ _ h => absurd (show false = true from h) Bool.false_ne_true
 hd := I.ok.hd
 frames := I.ok.frames
 stk := .inl rfl
 exf := fun b hb => ⟨Nat.ne_of_lt (Nat.lt_of_lt_of_le (hlt b hb) hC), fun y c h z => (hf b hb).2.2.2.2.1 y c (I.clos S h) z⟩
 bs := I.bs
 bsz := Nat.le_trans I.ok.bsz I.sz
 noex := fun b o e hb => by
  rcases (hf b hb).2.2.2.1 with z | z
  ·exact I.ok.noex b o e z
  ·exact absurd (Nat.lt_of_lt_of_le (Heap.lt_size e) (Nat.le_trans I.ok.bsz z)) (Nat.lt_irrefl _)
 exfs := fun b hb z => by
  rcases List.mem_cons.mp (I.stkSub b z) with q | q
  ·exact (hf b hb).2.1 q
  ·exact (hf b hb).2.2.1 q
 funs := I.stack
 frf := I.stkFree
def Qc1 (σ : St) (fr : List Nat) : St := fr.map fun i => (σ[i]?).join
theorem QiN {i : Nat} {v : V} (h : (Qc1 σ fr)[i]? = some (some v)) : ∃ j, fr[i]? = some j ∧ σ[j]? = some (some v) := by
 unfold Qc1 at h
 rw [List.getElem?_map] at h
 cases e : fr[i]? with
 | none => rw [e] at h; cases h
 | some j =>
  rw [e] at h
  refine ⟨j, rfl, ?_⟩
  have h : (σ[j]?).join = some v := Option.some.inj h
  cases e2 : σ[j]? with
  | none => rw [e2] at h; cases h
  | some o => rw [e2] at h; have h : o = some v := h; rw [h]
theorem Qlc (I : Inv X pins σ H s) (S : Qz X.env.scope X.N sc x N fr) (hC : s.heap.objs.size ≤ C) (hf : ∀ b ∈ ex, Qhe X pins H b) (hlt : ∀ b ∈ ex, b < s.heap.objs.size) {h' : Heap} {t' : Nat}
  (hn : ∃ m, h'.Ns C m) (k : ∀ b o, s.heap.get? b = some o → h'.get? b = some o) : Inv (blk X sc (x :: N) C ex s H) [] (none :: Qc1 σ fr) H { s with heap := h', toks := t' } := by
 obtain ⟨m, hn⟩ := hn
 have hlen : fr.length = N.length := by have := congrArg List.length S.ix; simpa using this
 refine ⟨blk_ok I S hC hf hlt, rfl, I.bare, Un.kept k, ⟨m, hn, fun i y v h1 h2 h3 => ?_⟩, fun y c h => ?_, I.hok.fresh hC, fun y c h => I.freeC y c (I.clos S h), fun p hp => absurd (show p ∈ ([] : Pn) from hp) (by simp), I.hok.kept k, ?_⟩
 ·cases i with
  | zero => cases (show some (none : Option V) = some (some v) from h2)
  | succ i =>
   have h2 : (Qc1 σ fr)[i]? = some (some v) := h2
   have h1 : N[i]? = some y := h1
   obtain ⟨j, hj, hv⟩ := QiN h2
   have e1 : (fr.map fun i => X.N[i]?)[i]? = (N.map some)[i]? := by rw [S.ix]
   rw [List.getElem?_map, List.getElem?_map, hj, h1] at e1
   have e1 : X.N[j]? = some y := Option.some.inj e1
   have hfree := S.fk y (List.mem_of_getElem? h1)
   have hcell : X.env.scope.names.lookup y = some .cell := S.free (y, .free) (PySem.mem_of_lookup hfree) rfl
   obtain ⟨m0, _, hl⟩ := I.loc
   obtain ⟨u, ru, l⟩ := hl j y v e1 hv (.inr (.inl hcell))
   refine ⟨u, ru, ?_⟩
   rcases l with ⟨q, _⟩ | ⟨_, c, hc, o, ho, hd⟩
   ·have q : X.env.scope.names.lookup y = some .local := q
    rw [hcell] at q
    cases q
   ·exact .inr ⟨.inl (Qcx I.ok.kind hfree hcell), c, QdZ hc (.inl (PySem.mem_of_lookup hfree)), o, k _ o ho, hd⟩
 ·obtain ⟨v, o, ho, hd⟩ := I.cell y c (I.clos S h)
  exact ⟨v, o, k _ o ho, hd⟩
 ·show (none :: Qc1 σ fr).length = (x :: N).length
  unfold Qc1
  rw [List.length_cons, List.length_map, hlen, List.length_cons]
theorem Un.track {fs ex : List Addr} {H H' : Hp} {h h' : Heap} {D : Addr} {o : HO} (u : Un fs ex H H' h h') (hn : H' D = none) (hD : h.objs.size ≤ D) : Un fs ex H (upd H' D o) h h' where
 keep := u.keep
 slot := u.slot
 free := fun b ob e n hx => by rw [Qh (Nat.ne_of_lt (Nat.lt_of_lt_of_le (Heap.lt_size e) hD))]; exact u.free b ob e n hx
 there := u.there
 tups := fun b xs q => by rw [Qh (Qf (u.tups b xs q) hn)]; exact u.tups b xs q
 frzs := fun b ob xs q => by rw [Qh (Qf (u.frzs b ob xs q) hn)]; exact u.frzs b ob xs q
 tbls := fun b ps q => by
  obtain ⟨m, e⟩ := u.tbls b ps q
  exact ⟨m, by rw [Qh (Qf e hn)]; exact e⟩
theorem HOk.track {P : Program} {w : World} {H : Hp} {h : Heap} {D : Addr} {o : HO} (ok : HOk P w H h) (hn : H D = none) (new : ObjOk P w (upd H D o) h D o) : HOk P w (upd H D o) h := fun b u e => by
 by_cases hb : b = D
 ·subst hb; rw [Qd] at e; cases e; exact new
 ·rw [Qh hb] at e
  exact (ok b u e).stay (fun _ _ _ q => q) (fun c q => by rw [Qh (Qf q hn)]; exact q) fun c xs q => by rw [Qh (Qf q hn)]; exact q
end
section
variable {prog : Program} {w : World} {A : Around} {R : Result → Shared → Prop} {s : Shared}
abbrev NoE : Value → Shared → Prop := fun _ _ => False
theorem noE {α : Type} {M : Model} {A : Around} {t : Sem α} {Q : α → Shared → Prop} {E : Value → Shared → Prop} {s : Shared} (h : wpAny M A t Q NoE s) : wpAny M A t Q E s := wpAny_mono h (fun _ _ q => q) fun _ _ z => False.elim z
theorem QhS {elt target iter : Expr} {ifs : List Expr} {scope : Scope} {pos : Pos} {it acc : Value} {env : Env} (I : Nat → Shared → Prop)
  (turn : ∀ n s, I n s → wpAny (model prog w) A (pyNext it) (fun r s₁ => match r with
   | none => R (.ok .next) s₁
   | some v => wpAny (model prog w) A (letOwnedTupleGo target it v) (fun _ s₁ => wpAny (model prog w) A (assign target env v) (fun _ s₂ =>
     wpAny (model prog w) A (forIn ifs true fun c r => if r = true then do let ok ← isTrue c env (eval c env); pure (ForInStep.yield ok) else pure (ForInStep.yield r)) (fun ok s₃ =>
      if ok = true then wpAny (model prog w) A (eval elt env) (fun x s₄ =>
       wpAny (model prog w) A (call (.builtin "list.append") [acc, x]) (fun _ s₅ => ∃ m, m < n ∧ I m s₅) NoE s₄) NoE s₃
      else ∃ m, m < n ∧ I m s₃) NoE s₂) NoE s₁) NoE s₁) NoE s)
  (n : Nat) (h : I n s) :
  codeAny (model prog w) A (.compLoop (.ListComp elt [⟨target, iter, ifs, 0⟩] scope pos) 0 it acc env) R s := by
 refine codeAny_loop rfl I (fun n s hI => ?_) n h
 show wpAny _ A ((compTurn (.ListComp elt [⟨target, iter, ifs, 0⟩] scope pos) 0 it acc env).onRaise (fun x => do noteFrame x env; theTreesLotGoes x)) _ _ s
 refine wpAny_noted ?_
 rw [compTurn_list]
 refine noE (wpAny_bind (wpAny_standAt (wpAny_bind (wpAny_mono (turn n s hI) (fun r s₁ h₁ => ?_) fun _ _ h' => h'))))
 cases r with
 | none => exact wpAny_pure h₁
 | some v =>
  refine wpAny_bind (thn h₁ fun _ s₂ h₂ => wpAny_bind (thn h₂ fun _ s₃ h₃ => wpAny_bind (thn h₃ fun ok s₄ h₄ => ?_)))
  cases ok with
  | false => exact wpAny_pure ⟨rfl, h₄⟩
  | true => exact wpAny_bind (wpAny_bind (thn h₄ fun x s₅ h₅ => wpAny_bind (thn h₅ fun _ s₆ h₆ => wpAny_pure (wpAny_pure ⟨rfl, h₆⟩))))
end
def Qnb (X : Cx) (ifs : List Expr) (t : TT) : Prop :=
 ∀ (pins : Pn) (s : Shared) (σ : St) (H : Hp) (Q : Bool → Hp → Prop), Inv X pins σ H s → t σ H Q →
  wpAny (model X.prog X.w) X.A (forIn ifs true fun c r => if r = true then do let ok ← isTrue c X.env (eval c X.env); pure (ForInStep.yield ok) else pure (ForInStep.yield r)) (TP X pins σ Q) X.xe s
def Qc0 : TT := fun _ H Q => Q true H
theorem Zd {X : Cx} : Qnb X [] Qc0 := fun _ _ _ H _ I h => wpAny_tests_nil ⟨H, I, h⟩
theorem QcT {X : Cx} {c : Expr} {t : TT} (h : PT X c t) : Qnb X [c] t := fun pins s σ H Q I hw => wpAny_tests_one (h pins s σ H Q I hw)
def QiE (fr : List Nat) (tc : TT) (te : TE) (σ : St) (Q : VK) : It → Hp → Prop := fun J H1 => ∃ W : Nat → Nat → List V → Hp → Prop, (∃ m, W 0 m [] H1) ∧ ∀ i m ys H, W i m ys H →
 (J.stop i H ∧ ys.length ≤ sizeLine ∧ ∀ p, H p = none → Q (.ref p) (upd H p (.lst ys))) ∨
 (J.go i H ∧ ys.length < sizeLine ∧ ∃ N : List V → Hp → Prop, (∀ ys' H', N ys' H' → ∃ m', m' < m ∧ W (i + 1) m' ys' H') ∧ ∀ v H', J.yld i H v H' → tc (some v :: Qc1 σ fr) H' fun b H2 =>
  if b = true then te (some v :: Qc1 σ fr) H2 fun y H3 => N (ys ++ [y]) H3 else N ys H2)
def QmE (wi : TI) (fr : List Nat) (tc : TT) (te : TE) : TE := fun σ H Q => wi σ H (QiE fr tc te σ Q)
section
variable {X : Cx} {elt iter : Expr} {x : Str} {px pos : Pos} {ifs : List Expr} {sc : Scope} {N : List Str} {fr : List Nat} {wi : TI} {tc : TT} {te : TE}
abbrev lob (its : List Value) (n : Nat) : Obj := { cls := .type "list", data := .seq its.toArray n }
theorem QhT (S : Qz X.env.scope X.N sc x N fr) (hcalm : X.calm = true) (hc : ∀ C ex s H, Qnb (blk X sc (x :: N) C ex s H) ifs tc) (he : ∀ C ex s H, PE (blk X sc (x :: N) C ex s H) elt te)
  {pins : Pn} {σ : St} {H : Hp} {s : Shared} {E : Value → Shared → Prop} {it : Addr} {fp : List Addr} {tn : Nat → Heap → Prop} {J : It} {Q : VK} {RR : Value → Addr → Result → Shared → Prop}
  (I : Inv X pins σ H s) (T : Qm9 X.prog X.w X.K (.Name x px) J fp it tn) (st : tn 0 s.heap) (f2 : ∀ b ∈ fp, Qhe X pins H b)
  (hW : ∃ W : Nat → Nat → List V → Hp → Prop, (∃ m, W 0 m [] H) ∧ ∀ i m ys H, W i m ys H →
   (J.stop i H ∧ ys.length ≤ sizeLine ∧ ∀ p, H p = none → Q (.ref p) (upd H p (.lst ys))) ∨
   (J.go i H ∧ ys.length < sizeLine ∧ ∃ N : List V → Hp → Prop, (∀ ys' H', N ys' H' → ∃ m', m' < m ∧ W (i + 1) m' ys' H') ∧ ∀ v H', J.yld i H v H' → tc (some v :: Qc1 σ fr) H' fun b H2 =>
    if b = true then te (some v :: Qc1 σ fr) H2 fun y H3 => N (ys ++ [y]) H3 else N ys H2))
  (hRR : ∀ (D C : Addr) (H' : Hp) (s' : Shared), Inv X pins σ H' s' → (∃ o, s'.heap.get? C = some o ∧ (∃ m, s'.heap.Ns C m) ∧ ∀ v, o.data ≠ .cell v) → Qhe X pins H' C → Q (.ref D) H' → RR (.ref D) C (.ok .next) s') :
  wpAny (model X.prog X.w) X.A (newList []) (fun acc s₃ => wpAny (model X.prog X.w) X.A (newFunctionEnv sc X.env.globals (Qdd X.env sc.names []) [] X.env.qual none .none (some X.env)) (fun cenv s₄ =>
   codeAny (model X.prog X.w) X.A (.compStart (.ListComp elt [⟨.Name x px, iter, ifs, 0⟩] sc pos) 0 (.ref it) acc { cenv with scope := relabel sc X.env }) (RR acc cenv.locals) s₄) E s₃) E s := by
 obtain ⟨W, ⟨m0, w0⟩, turn⟩ := hW
 have hlt : ∀ b ∈ fp, b < s.heap.objs.size := fun b hb => let ⟨o, e, _⟩ := T.obj _ _ st b hb; Heap.lt_size e
 refine wpAny_newObj_type (wpAny_newFunctionEnv S.nocell (by intro y hy; simp at hy) (fun h₁ hns₁ hsb₁ => ?_) S.kind)
 dsimp only at hns₁ hsb₁ ⊢
 generalize hH2 : s.heap.push { cls := .type "list", dict := none, data := .seq ([] : List Value).toArray } = H2 at hns₁ hsb₁ ⊢
 have hC : H2.objs.size = s.heap.objs.size + 1 := by rw [← hH2, Heap.size_push]
 have hDC : s.heap.objs.size ≠ H2.objs.size := by rw [hC]; exact Nat.ne_of_lt (Nat.lt_succ_self _)
 have hCle : s.heap.objs.size ≤ H2.objs.size := by rw [hC]; exact Nat.le_succ _
 have old : ∀ b o, s.heap.get? b = some o → h₁.get? b = some o := fun b o e =>
  hsb₁.extBut b o (by rw [hC]; exact Nat.ne_of_lt (Nat.lt_succ_of_lt (Heap.lt_size e))) (Heap.get?_push_of_some _ (hH2 ▸ Heap.get?_push_of_some _ e))
 have eD : h₁.get? s.heap.objs.size = some (lob [] 0) := hsb₁.extBut _ _ hDC (Heap.get?_push_of_some _ (hH2 ▸ Heap.get?_push_size _ rfl))
 have fpX : ∀ {H' : Hp} {o : Obj}, (∀ b ∈ fp, H' b = none) → ∀ b ∈ fp, Qhe (blk X sc (x :: N) H2.objs.size fp s H) [(s.heap.objs.size, o)] H' b := fun {H' o} hn b hb => by
  refine ⟨hn b hb, Nat.ne_of_lt (Nat.lt_of_lt_of_le (hlt b hb) hCle), fun z => ?_, .inl hb, fun y c h => (f2 b hb).2.2.2.2.1 y c (I.clos S h), fun p hp z => ?_⟩
  ·rcases List.mem_cons.mp (I.stkSub b z) with q | q
   ·exact (f2 b hb).2.1 q
   ·exact (f2 b hb).2.2.1 q
  ·have hp : p = (s.heap.objs.size, o) := by simpa using (show p ∈ [] ++ [(s.heap.objs.size, o)] from hp)
   subst hp
   exact absurd (hlt b hb) (by rw [← z]; exact Nat.lt_irrefl _)
 have pinD : ∀ {pl : Pn} {σ' : St} {H' : Hp} {s' : Shared} {its : List Value} {n : Nat}, Inv (blk X sc (x :: N) H2.objs.size fp s H) pl σ' H' s' → s'.heap.get? s.heap.objs.size = some (lob its n) → H' s.heap.objs.size = none →
   Inv (blk X sc (x :: N) H2.objs.size fp s H) [(s.heap.objs.size, lob its n)] σ' H' s' := fun {pl σ' H' s' its n} J' e hn => by
  refine J'.pins_of fun p hp => ?_
  have hp : p = (s.heap.objs.size, lob its n) := by simpa using hp
  subst hp
  refine ⟨e, hn, hDC, fun z => ?_, fun v z => by cases z⟩
  obtain ⟨_, o, ho, _⟩ := I.stack.mem z
  exact absurd (Heap.lt_size ho) (Nat.lt_irrefl _)
 have IX : Inv (blk X sc (x :: N) H2.objs.size fp s H) [(s.heap.objs.size, lob [] 0)] (none :: Qc1 σ fr) H { s with heap := h₁, toks := s.toks + ([] : List (Str × Value)).length } :=
  pinD (Qlc I S hCle f2 hlt ⟨_, hns₁⟩ old) eD (I.hok.fresh (Nat.le_refl _))
 have st₁ : tn 0 h₁ := T.keep _ _ _ st fun b _ o e => old b o e
 have loop : ∀ s₃ : Shared, s₃ = { s with heap := h₁, toks := s.toks + ([] : List (Str × Value)).length } →
   codeAny (model X.prog X.w) X.A (.compLoop (.ListComp elt [⟨.Name x px, iter, ifs, 0⟩] sc pos) 0 (.ref it) (.ref s.heap.objs.size) (blk X sc (x :: N) H2.objs.size fp s H).env)
    (RR (.ref s.heap.objs.size) H2.objs.size) s₃ := by
  rintro s₃ rfl
  refine QhS (fun n s' => ∃ i v0 its c ys H', Inv (blk X sc (x :: N) H2.objs.size fp s H) [(s.heap.objs.size, lob its c)] (v0 :: Qc1 σ fr) H' s' ∧ Vals ys its ∧ tn i s'.heap ∧ (∀ b ∈ fp, H' b = none) ∧ W i n ys H') ?_ m0
   ⟨0, none, [], 0, [], H, IX, .nil, st₁, fun b hb => (f2 b hb).1, w0⟩
  rintro n s4 ⟨i, v0, its, c, ys, H4, I4, rv, st4, fr4, w4⟩
  have pD := I4.pin (s.heap.objs.size, lob its c) (List.mem_append_right _ (List.mem_singleton.mpr rfl))
  rcases turn i n ys H4 w4 with ⟨stop, hz, fin⟩ | ⟨go, hz, NN, hNN, step⟩
  ·refine thn (T.done (blk X sc (x :: N) H2.objs.size fp s H) rfl rfl rfl hcalm i _ s4 _ H4 NoE I4 (fpX fr4) st4 stop) fun r s5 ⟨hr, I5⟩ => ?_
   subst hr
   obtain ⟨e5, n5, _⟩ := I5.pin (s.heap.objs.size, lob its c) (List.mem_append_right _ (List.mem_singleton.mpr rfl))
   have e5 : s5.heap.get? s.heap.objs.size = some (lob its c) := e5
   have n5 : H4 s.heap.objs.size = none := n5
   have IF : Inv X pins σ (upd H4 s.heap.objs.size (.lst ys)) s5 := I.call' (ch := fp) I5.os (Un.track I5.base n5 (Nat.le_refl _)) (HOk.track I5.hok n5 ⟨hz, its, c, rv, e5⟩) I5.bare
    fun b hb => ⟨(f2 b hb).2.2.2.1, (f2 b hb).2.1, (f2 b hb).2.2.2.2.1, (f2 b hb).2.2.2.2.2⟩
   obtain ⟨mC, nsC, _⟩ := I5.loc
   obtain ⟨oC, esC, epC, hoC, hdC, _⟩ := id nsC
   refine hRR _ _ _ s5 IF ⟨oC, hoC, ⟨mC, nsC⟩, fun v z => by rw [hdC] at z; cases z⟩ (I.fpOk hCle ?_) (fin _ n5)
   rw [Qh (Ne.symm hDC)]
   exact I5.free
  ·refine thn (T.item (blk X sc (x :: N) H2.objs.size fp s H) rfl rfl rfl hcalm i _ s4 _ H4 NoE I4 (fpX fr4) st4 go) fun r s5 ⟨u, hr, h5⟩ => ?_
   subst hr
   refine thn h5 fun _ s6 ⟨v, H6, I6, r6, y6, st6, fr6⟩ => ?_
   have I6' := I6.pinned (fpX fr6) (T.obj _ _ st6)
   refine wpAny_assign_Name (Qbh (i := 0) I6' S.nd rfl (.inl (lookup_relabel_local S.xl)) r6 (fun s7 I7 => ?_) (.inr (lookup_relabel_local S.xl)))
   have I7 : Inv (blk X sc (x :: N) H2.objs.size fp s H) ([(s.heap.objs.size, lob its c)] ++ Qfn fp s6.heap) (some v :: Qc1 σ fr) H6 s7 := I7
   refine thn (hc _ _ _ _ _ s7 _ H6 _ I7 (step v H6 y6)) fun b s8 ⟨H8, I8, q8⟩ => ?_
   have atFp : ∀ {σ' : St} {H' : Hp} {s' : Shared}, Inv (blk X sc (x :: N) H2.objs.size fp s H) ([(s.heap.objs.size, lob its c)] ++ Qfn fp s6.heap) σ' H' s' → tn (i + 1) s'.heap ∧ ∀ b ∈ fp, H' b = none := fun {σ' H' s'} J' => by
    refine ⟨T.keep _ _ _ st6 fun b hb o e => (J'.pin (b, o) (List.mem_append_right _ (List.mem_append_right _ (Qa0 hb e)))).1, fun b hb => ?_⟩
    obtain ⟨o, e, _⟩ := T.obj _ _ st6 b hb
    exact (J'.pin (b, o) (List.mem_append_right _ (List.mem_append_right _ (Qa0 hb e)))).2.1
   cases b with
   | false =>
    have q8 : NN ys H8 := q8
    obtain ⟨m', hm, w8⟩ := hNN _ _ q8
    obtain ⟨a1, a2⟩ := atFp I8
    exact ⟨m', hm, i + 1, some v, its, c, ys, H8, I8.unpinned, rv, a1, a2, w8⟩
   | true =>
    refine thn (he _ _ _ _ _ s8 _ H8 _ I8 q8) fun y s9 ⟨yv, H9, I9, r9, q9⟩ => ?_
    obtain ⟨m', hm, w9⟩ := hNN _ _ q9
    obtain ⟨e9, n9, _⟩ := I9.pin (s.heap.objs.size, lob its c) (List.mem_append_right _ (List.mem_append_left _ (List.mem_singleton.mpr rfl)))
    have e9 : s9.heap.get? s.heap.objs.size = some (lob its c) := e9
    have n9 : H9 s.heap.objs.size = none := n9
    obtain ⟨a1, a2⟩ := atFp I9
    have hl : ys.length = its.length := rv.length
    refine call_meets F.slot_list_append ⟨_, e9, rfl⟩ F.entry_list_append (F.args_list_append_2 _ _) (PySem.list_append s.heap.objs.size its.toArray c y (by rw [List.size_toArray]; omega)) ⟨e9, ?_⟩
    have q := PySem.IsL.update e9 (·.push y)
    have hpush : its.toArray.push y = (its ++ [y]).toArray := by simp
    rw [hpush] at q
    have kO : ∀ b o, b ≠ s.heap.objs.size → s9.heap.get? b = some o → (s9.heap.update s.heap.objs.size (Obj.mapSeq (·.push y))).get? b = some o := fun b o hb e => (Heap.get?_update_other s9.heap _ (Ne.symm hb)).trans e
    have J1 : Inv (blk X sc (x :: N) H2.objs.size fp s H) [] (some v :: Qc1 σ fr) H9 s9 := I9.pins_of fun p hp => absurd hp (by simp)
    have J2 := J1.turned (it := s.heap.objs.size) (t' := s9.toks) kO n9 hDC (.inr (Nat.le_refl _)) (fun z cc h e => by
     obtain ⟨vv, o, ho, _⟩ := I.cell z cc (I.clos S h)
     exact absurd (Heap.lt_size ho) (by rw [e]; exact Nat.lt_irrefl _)) (fun p hp => absurd (show p ∈ ([] : Pn) from hp) (by simp))
    refine ⟨m', hm, i + 1, some v, its ++ [y], _, ys ++ [yv], H9, pinD J2 q n9, rv.append (.cons r9 .nil), T.keep _ _ _ a1 fun b hb o e => kO b o (Nat.ne_of_lt (hlt b hb)) e, a2, w9⟩
 exact codeAny_compStart_list (loop _ rfl) (T.self _ 0 _ _ _ st₁ (loop _ rfl))
theorem Qbd (S : Qz X.env.scope X.N sc x N fr) (hcalm : X.calm = true) (hi : PI X (.Name x px) iter wi) (hc : ∀ C ex s H, Qnb (blk X sc (x :: N) C ex s H) ifs tc) (he : ∀ C ex s H, PE (blk X sc (x :: N) C ex s H) elt te)
  (hs : ∀ v, foldedSetIterable iter X.env v = pure v := by intro _; rfl) : PE X (.ListComp elt [⟨.Name x px, iter, ifs, 0⟩] sc pos) (QmE wi fr tc te) := by
 intro pins s σ H Q I h
 rw [eval_ListComp]
 refine wpAny_comprehension_free (use := none) rfl hs (Qix (I.cells S)) S.kind S.names (thn (hi pins s σ H _ I h) fun v s1 h1 => thn h1 fun itv s2 h2 => ?_)
 obtain ⟨it, fp, tn, J, H2, e, I2, T, st2, f2, hW⟩ := h2
 subst e
 refine QhT (RR := fun acc C => compPost (model X.prog X.w) X.A X.xe none (EP X pins σ Q) acc C) S hcalm hc he I2 T st2 f2 hW fun D C H' s' I' ⟨o, ho, ⟨m, hn⟩, hd⟩ fC q => ?_
 obtain ⟨f0, f1, f3, f4, f5, f6⟩ := fC
 exact ⟨m, hn, fun h' hsb => ⟨.ref D, H', I'.turned (t' := s'.toks) (fun b ob hb e => (hsb.2 b hb).trans e) f0 f1 f4 f5 f6, rfl, q⟩⟩
theorem Zo {i : Nat} {y : Str} {py spos : Pos} (S : Qz X.env.scope X.N sc x N fr) (hcalm : X.calm = true) (hN : X.N.Nodup) (hi' : X.N[i]? = some y) (hy : Loc X.env.scope y) (hi : PI X (.Name x px) iter wi)
  (hc : ∀ C ex s H, Qnb (blk X sc (x :: N) C ex s H) ifs tc) (he : ∀ C ex s H, PE (blk X sc (x :: N) C ex s H) elt te)
  (hsw : swapsWith (.ListComp elt [⟨.Name x px, iter, ifs, 0⟩] sc pos) (some (.Name y py)) spos.line X.env = pure true := by rfl)
  (hf : X.fn y = true ∨ X.env.scope.names.lookup y = some .local := by first | exact .inl rfl | exact .inr rfl | assumption)
  (hs : ∀ v, foldedSetIterable iter X.env v = pure v := by intro _; rfl) : PS X (.Assign [.Name y py] (.ListComp elt [⟨.Name x px, iter, ifs, 0⟩] sc pos) spos) (tAsg (QmE wi fr tc te) (QlP i)) := by
 intro pins s σ H D I h
 rw [exec_Assign_Name_used _ _ _ _ hsw]
 refine wpAny_bind (wpAny_standAt (wpAny_bind ?_))
 show wpAny _ X.A (do let _ ← comprehension (.ListComp elt [⟨.Name x px, iter, ifs, 0⟩] sc pos) sc X.env _ (newList []) false (eval iter X.env) (some (assign (.Name y py) X.env))) _ _ s
 refine wpAny_bind (wpAny_mono (wpAny_comprehension_free (use := some (assign (.Name y py) X.env)) (Q := fun _ s' => SP X pins D .next s') rfl hs (Qix (I.cells S)) S.kind S.names
  (thn (hi pins s σ H _ I h) fun v s1 h1 => thn h1 fun itv s2 h2 => ?_)) (fun _ s' hq => wpAny_pure (wpAny_pure hq)) fun _ _ e => e)
 obtain ⟨it, fp, tn, J, H2, e, I2, T, st2, f2, hW⟩ := h2
 subst e
 refine QhT (RR := fun acc C => compPost (model X.prog X.w) X.A X.xe (some (assign (.Name y py) X.env)) (fun _ s' => SP X pins D .next s') acc C) (Q := fun v H1 => QlP i v σ H1 D.nx) S hcalm hc he I2 T st2 f2 hW fun A C H' s' I' ⟨o, ho, ⟨m, hn⟩, hd⟩ fC q => ?_
 obtain ⟨f0, f1, f3, f4, f5, f6⟩ := fC
 have IP : Inv X (pins ++ [(C, o)]) σ H' s' := I'.pins_of fun p hp => by
  rcases List.mem_append.mp hp with z | z
  ·exact I'.pin p (List.mem_append_right _ z)
  ·have z : p = (C, o) := by simpa using z
   subst z
   exact ⟨ho, f0, f1, f3, hd⟩
 show wpAny _ X.A (assign (.Name y py) X.env (.ref A)) _ _ s'
 refine wpAny_assign_Name (Qbh (v := .ref A) IP hN hi' hy rfl (fun s5 I5 => ?_) hf)
 have e5 := (I5.pin (C, o) (List.mem_append_right _ (List.mem_append_right _ (List.mem_singleton.mpr rfl)))).1
 refine ⟨m, hn.at' fun ob e => ?_, fun h' hsb => ⟨_, H', I5.unpinned.turned (t' := s5.toks) (fun b ob hb e => (hsb.2 b hb).trans e) f0 f1 f4 f5 f6, q⟩⟩
 rw [ho] at e
 cases e
 exact e5
end
theorem Qaq {lo : Int} {n : Nat} {tc : TT} {te : TE} {σ : St} {fr : List Nat} {H : Hp} {Q : VK} (Pv : Nat → List V → Hp → Prop) (h0 : Pv 0 [] H) (hz : ∀ i ys H, Pv i ys H → ys.length ≤ i) (hn : n ≤ sizeLine)
  (hs : ∀ (i : Nat) (ys : List V) (H : Hp), i < n → Pv i ys H → tc (some (.int (lo + i)) :: Qc1 σ fr) H fun b H2 => if b = true then te (some (.int (lo + i)) :: Qc1 σ fr) H2 fun y H3 => Pv (i + 1) (ys ++ [y]) H3 else Pv (i + 1) ys H2)
  (hd : ∀ ys H, Pv n ys H → ∀ p, H p = none → Q (.ref p) (upd H p (.lst ys))) : QiE fr tc te σ Q (Itr lo n) H := by
 refine ⟨fun i m ys H => m = n - i ∧ i ≤ n ∧ Pv i ys H, ⟨n, by simp, Nat.zero_le _, h0⟩, ?_⟩
 rintro i m ys H ⟨rfl, hi, p⟩
 have hl := hz i ys H p
 by_cases hlt : i < n
 ·refine .inr ⟨hlt, by omega, Pv (i + 1), fun ys' H' q => ⟨n - (i + 1), by omega, rfl, hlt, q⟩, fun v H' y => ?_⟩
  obtain ⟨e, y⟩ := y
  subst e y
  exact hs i ys _ hlt p
 ·have e : i = n := by omega
  subst e
  exact .inl ⟨Nat.le_refl _, by omega, hd ys H p⟩
theorem ZE {K : Fg} {a : Addr} {xs : List V} {tc : TT} {te : TE} {σ : St} {fr : List Nat} {H : Hp} {Q : VK} (Pv : Nat → List V → Hp → Prop) (h0 : Pv 0 [] H) (hz : ∀ i ys H, Pv i ys H → ys.length ≤ i) (hn : xs.length ≤ sizeLine)
  (hl : ∀ i ys H, i ≤ xs.length → Pv i ys H → SqL K H a xs)
  (hs : ∀ (i : Nat) (x : V) (ys : List V) (H : Hp), xs[i]? = some x → Pv i ys H → tc (some x :: Qc1 σ fr) H fun b H2 => if b = true then te (some x :: Qc1 σ fr) H2 fun y H3 => Pv (i + 1) (ys ++ [y]) H3 else Pv (i + 1) ys H2)
  (hd : ∀ ys H, Pv xs.length ys H → ∀ p, H p = none → Q (.ref p) (upd H p (.lst ys))) : QiE fr tc te σ Q (Itl K a) H := by
 refine ⟨fun i m ys H => m = xs.length - i ∧ i ≤ xs.length ∧ Pv i ys H, ⟨xs.length, by simp, Nat.zero_le _, h0⟩, ?_⟩
 rintro i m ys H ⟨rfl, hi, p⟩
 have q0 := hl i ys H hi p
 have hl := hz i ys H p
 by_cases hlt : i < xs.length
 ·refine .inr ⟨⟨xs, xs[i], q0, by simp [hlt]⟩, by omega, Pv (i + 1), fun ys' H' q => ⟨xs.length - (i + 1), by omega, rfl, hlt, q⟩, fun v H' y => ?_⟩
  obtain ⟨e, y⟩ := y
  subst e
  exact hs i v ys _ (y xs q0) p
 ·have e : i = xs.length := by omega
  subst e
  exact .inl ⟨⟨xs, q0, Nat.le_refl _⟩, by omega, hd ys H p⟩
end L2
namespace L2
open PySem PySem.Spec PyProof.Rows
section
variable {X : Cx} {pins : Pn} {σ : St} {H : Hp} {s : Shared}
theorem Inv.turned2 {e it : Addr} {h' : Heap} {t' : Nat} {o : HO} (I : Inv X pins σ H s) (hf : ∀ b ∈ [e, it], Qhe X pins H b)
  (k : ∀ b ob, b ≠ e → b ≠ it → s.heap.get? b = some ob → h'.get? b = some ob) (new : ObjOk X.prog X.w (upd H s.heap.objs.size o) h' s.heap.objs.size o) :
  Inv X pins σ (upd H s.heap.objs.size o) { s with heap := h', toks := t' } := by
 obtain ⟨e0, e1, _, e3, e4, e5⟩ := hf e (by simp)
 obtain ⟨i0, i1, _, i3, i4, i5⟩ := hf it (by simp)
 have ne : ∀ b ob, s.heap.get? b = some ob → b ≠ s.heap.objs.size := fun b ob q => Nat.ne_of_lt (Heap.lt_size q)
 have hn : H s.heap.objs.size = none := I.hok.fresh (Nat.le_refl _)
 have notin : ∀ b, b ∉ [e, it] → b ≠ e ∧ b ≠ it := fun b hb => ⟨fun z => hb (by simp [z]), fun z => hb (by simp [z])⟩
 refine I.step (g' := s.gens) (d' := s.drawn) (ch := [e, it]) (fun b hb => ?_) (fun b ob _ _ hc q _ => k b ob (notin b hc).1 (notin b hc).2 q) (fun b ob _ _ hc q _ => ⟨ob.slots, k b ob (notin b hc).1 (notin b hc).2 q⟩)
  (fun b ob _ q n => by rw [Qh (ne b ob q)]; exact n) (fun b ob hc q => ⟨ob, k b ob (notin b hc).1 (notin b hc).2 q⟩) (fun b xs q => by rw [Qh (Qf q hn)]; exact q)
  (fun b ob u q => by rw [Qh (Qf q hn)]; exact q) (fun b ps q => ⟨#[], by rw [Qh (Qf q hn), q]; simp⟩) (fun m hm => ?_) (fun b u q => ?_) I.bare
 ·rcases List.mem_cons.mp hb with z | z
  ·subst z; exact ⟨e3, e1, e4, e5⟩
  ·have z : b = it := by simpa using z
   subst z; exact ⟨i3, i1, i4, i5⟩
 ·obtain ⟨ob, es, ep, ho, r⟩ := hm
  exact ⟨ob, es, ep, k _ ob (Ne.symm e1) (Ne.symm i1) ho, r⟩
 ·by_cases hb : b = s.heap.objs.size
  ·subst hb; rw [Qd] at q; cases q; exact new
  ·rw [Qh hb] at q
   have nfp : ∀ c v, H c = some v → c ≠ e ∧ c ≠ it := fun c v z => ⟨Qf z e0, Qf z i0⟩
   refine (I.hok b u q).stay (fun c v hc z => ?_) (fun c z => by rw [Qh (Qf z hn)]; exact z) fun c xs z => by rw [Qh (Qf z hn)]; exact z
   rcases hc with y | y
   ·subst y; exact k _ v (nfp _ _ q).1 (nfp _ _ q).2 z
   ·exact k _ v (nfp _ _ y).1 (nfp _ _ y).2 z
end
section
variable {P : Program} {w : World} {H : Hp} {h : Heap} {a : Addr} {o : HO}
theorem ObjOk.has (x : ObjOk P w H h a o) : ∃ ob, h.get? a = some ob := by
 cases o with
 | lst xs => obtain ⟨_, _, _, _, e⟩ := x; exact ⟨_, e⟩
 | tup xs => obtain ⟨_, _, _, ob, e, _⟩ := x; exact ⟨_, e⟩
 | dK kvs => obtain ⟨_, _, _, _, ob, _, _, e, _⟩ := x; exact ⟨_, e⟩
 | dT kvs => obtain ⟨_, _, _, _, ob, _, _, e, _⟩ := x; exact ⟨_, e⟩
 | set S n => obtain ⟨ob, _, _, _, e, _⟩ := x; exact ⟨_, e⟩
 | ins C dx fs => obtain ⟨_, _, _, e, _⟩ := x; exact ⟨_, e⟩
 | own y => exact x
 | xd fs => obtain ⟨_, ⟨_, _, _, e, _⟩, _⟩ := x; exact ⟨_, e⟩
 | rng lo hi => obtain ⟨_, _, _, e⟩ := x; exact ⟨_, e⟩
 | frz ob u => obtain ⟨e, _⟩ := x; exact ⟨_, e⟩
 | tbl ps => exact ⟨_, x⟩
 | met f y => exact ⟨_, x⟩
 | ext φ => obtain ⟨_, e, _⟩ := x; exact e
theorem HOk.freeAt (x : HOk P w H h) (e : h.get? a = none) : H a = none := by
 cases q : H a with
 | none => rfl
 | some u =>
  obtain ⟨ob, z⟩ := (x a u q).has
  rw [z] at e; cases e
end
section
variable {X : Cx} {pins : Pn} {σ : St} {H : Hp} {s : Shared}
theorem Inv.laidN {a : Addr} {o : HO} {t' : Nat} {h' : Heap} (I : Inv X pins σ H s) (k : ∀ b u, s.heap.get? b = some u → h'.get? b = some u) (ha : s.heap.get? a = none) (new : ObjOk X.prog X.w (upd H a o) h' a o) :
  Inv X pins σ (upd H a o) { s with heap := h', toks := t' } := by
 have hn := I.hok.freeAt ha
 have ne : ∀ b u, s.heap.get? b = some u → b ≠ a := fun b u q z => by rw [z, ha] at q; cases q
 refine I.un ⟨fun b u q _ _ _ => k b u q, fun b u q _ _ _ => ⟨u.slots, k b u q⟩, fun b u q n _ => by rw [Qh (ne b u q)]; exact n, fun b u q _ => ⟨u, k b u q⟩, fun b xs q => by rw [Qh (Qf q hn)]; exact q,
  fun b u xs q => by rw [Qh (Qf q hn)]; exact q, fun b ps q => ⟨#[], by rw [Qh (Qf q hn), q]; simp⟩⟩ fun b u q => ?_
 by_cases hb : b = a
 ·subst hb; rw [Qd] at q; cases q; exact new
 ·rw [Qh hb] at q
  exact (I.hok b u q).stay (fun c v _ z => k c v z) (fun c z => by rw [Qh (Qf z hn)]; exact z) fun c xs z => by rw [Qh (Qf z hn)]; exact z
end
def Ite (a : Addr) : It :=
  ⟨fun i H => ∃ xs x, H a = some (.lst xs) ∧ xs[i]? = some x,
   fun i H v H' => ∃ p x, H p = none ∧ v = .ref p ∧ H' = upd H p (.tup [.int (i : Int), x]) ∧ ∀ xs, H a = some (.lst xs) → xs[i]? = some x,
   fun i H => ∃ xs, H a = some (.lst xs) ∧ xs.length ≤ i⟩
theorem QjR {P : Program} {w : World} {K : Fg} {elts : List Expr} {x1} {pos : Pos} (a e it : Addr) (hne : e ≠ it) :
  Qm9 P w K (.Tuple elts x1 pos) (Ite a) [e, it] e (fun i h => ∃ old, IsEnum h e it ((i : Nat) : Int) old ∧ h.IsListIter it a i) where
 mem := by simp
 obj := fun i h st b hb => by
  obtain ⟨old, he, o, ho, hc, hd⟩ := st
  rcases List.mem_cons.mp hb with z | z
  ·subst z; exact ⟨_, he, fun v z => by cases z⟩
  ·have z : b = it := by simpa using z
   subst z; exact ⟨o, ho, fun v z => by rw [hd] at z; cases z⟩
 keep := fun i h h' ⟨old, he, hit⟩ k => ⟨old, k e (by simp) _ he, hit.at fun o q => k it (by simp) o q⟩
 item := by
  intro X hP hw hK hc i pins s σ H E I hf st hg
  subst hP hw hK
  obtain ⟨old, he, hit⟩ := st
  obtain ⟨xs, x, hq, hx⟩ := hg
  obtain ⟨its, rv, p, hz⟩ := I.list (SqL.of hq)
  obtain ⟨u, hu, ru⟩ := rv.get hx
  refine wpAny_pyNext_enum_item he hit p.isList (x := u) (by simpa using hu) hne fun h1 heo hit1 ht1 hz1 hk1 => ⟨_, rfl, ?_⟩
  refine wpAny_letOwnedTupleGo_enum heo fun h2 he2 hs2 => ?_
  have hs2 : Heap.SameBut e h1 h2 := hs2
  have heH : e < s.heap.objs.size := Heap.lt_size he
  have hn : H s.heap.objs.size = none := I.hok.fresh (Nat.le_refl _)
  have ht2 : h2.get? s.heap.objs.size = some { cls := .type "tuple", data := .seq #[.int i s.toks, u] } := (hs2.2 _ (Nat.ne_of_gt heH)).trans ht1
  have I2 : Inv X pins σ (upd H s.heap.objs.size (.tup [.int (i : Int), x])) { s with heap := h2, toks := s.toks + 1 } := by
   refine I.turned2 hf (fun b ob h1' h2' q => (hs2.2 b h1').trans (hk1 b ob h1' h2' q)) ?_
   exact ⟨by rw [sizeLine_eq]; simp, [.int i s.toks, u], .cons ⟨_, rfl⟩ (.cons ru .nil), ⟨_, ht2, rfl, 0, rfl⟩⟩
  refine ⟨.ref s.heap.objs.size, _, I2, rfl, ⟨_, x, hn, rfl, rfl, fun ys hy => ?_⟩, ⟨u, ?_, ?_⟩, fun b hb => ?_⟩
  ·rw [hq] at hy; cases hy; exact hx
  ·have : ((i + 1 : Nat) : Int) = (i : Int) + 1 := by push_cast; rfl
   rw [this]; exact he2
  ·exact hit1.extBut hs2.extBut (Ne.symm hne)
  ·rw [Qh]
   ·exact (hf b hb).1
   ·rcases List.mem_cons.mp hb with z | z
    ·subst z; exact Nat.ne_of_lt heH
    ·have z : b = it := by simpa using z
     subst z
     obtain ⟨o, ho, _⟩ := hit
     exact Nat.ne_of_lt (Heap.lt_size ho)
 done := by
  intro X hP hw hK hc i pins s σ H E I hf st hg
  subst hP hw hK
  obtain ⟨old, he, hit⟩ := st
  obtain ⟨xs, hq, hx⟩ := hg
  obtain ⟨its, rv, p, hz⟩ := I.list (SqL.of hq)
  obtain ⟨f0, f1, f2, f3, f4, f5⟩ := hf it (by simp)
  have hl := rv.length
  exact wpAny_pyNext_enum_end (I.ok.hd hc) he hit p.isList (by simp; omega) fun h' eb => ⟨rfl, I.turned (t' := s.toks) (fun b o hb e => eb b o hb e) f0 f1 f3 f4 f5⟩
 self := fun _ _ _ _ _ ⟨_, he, _⟩ h => wpAny_pyIter_enum he h
section
variable {X : Cx}
def iEnum (ta : TA) : TI := fun σ H R => ta σ H fun vs H1 => ∃ a xs, vs = [.ref a] ∧ H1 a = some (.lst xs) ∧ R (Ite a) H1
theorem Qdk {elts : List Expr} {x1} {tpos : Pos} {l : Expr} {ta : TA} {p pos : Pos} (hg : Gl X "enumerate") (hm : X.mg "enumerate" = none) (ha : PA X [l] ta) (hs : starEach [l] X.env = [(false, eval l X.env)] := by rfl) :
  PI X (.Tuple elts x1 tpos) (.Call (.Name "enumerate" p) [l] [] pos) (iEnum ta) := by
 intro pins s σ H R I h
 refine Call_ (QfJ I hg hm boot_enumerate (PyProof.Rows.callWith_type1 (thn (ha pos pins s σ H _ I h) fun us s1 ⟨vs, H1, I1, r1, q1⟩ => ?_) hs rfl))
 obtain ⟨a, xs, e, hq, q⟩ := q1
 subst e
 obtain ⟨u, rfl, ru⟩ := Qhj r1
 cases ru
 obtain ⟨z, its, n, rv, eo⟩ := I1.hok a _ hq
 refine call_enumerate_1 eo fun h' he hit hz hk => wpAny_pyIter_enum he ?_
 have I2 : Inv X pins σ H1 { s1 with heap := h' } := I1.kept (t' := s1.toks) hk
 refine ⟨_, [s1.heap.objs.size + 1, s1.heap.objs.size], _, _, H1, rfl, I2, QjR a _ _ (Nat.succ_ne_self _), ⟨.none, he, hit⟩, fun b hb => ?_, q⟩
 rcases List.mem_cons.mp hb with z | z
 ·subst z; exact I1.fpOk (Nat.le_succ _) (I1.hok.fresh (Nat.le_succ _))
 ·have z : b = s1.heap.objs.size := by simpa using z
  subst z; exact I1.fpOk (Nat.le_refl _) (I1.hok.fresh (Nat.le_refl _))
end
theorem QcY {a : Addr} {xs : List V} {g : TG} {tb : TS} {D : QjL} {σ : St} {H : Hp} (Pv : Nat → St → Hp → Prop) (h0 : Pv 0 σ H) (hl : ∀ i σ H, i ≤ xs.length → Pv i σ H → H a = some (.lst xs))
  (hs : ∀ i x σ H p, xs[i]? = some x → Pv i σ H → H p = none → g (.ref p) σ (upd H p (.tup [.int (i : Int), x])) fun σ2 H2 => tb { D with nx := Pv (i + 1), ct := Pv (i + 1), bk := D.nx } σ2 H2) (hd : ∀ σ H, Pv xs.length σ H → D.nx σ H) :
  ∃ W : Nat → Nat → St → Hp → Prop, (∃ m, W 0 m σ H) ∧ ∀ i m σ H, W i m σ H →
   ((Ite a).stop i H ∧ D.nx σ H) ∨ ((Ite a).go i H ∧ ∃ N : St → Hp → Prop, (∀ σ' H', N σ' H' → ∃ m', m' < m ∧ W (i + 1) m' σ' H') ∧ ∀ x H', (Ite a).yld i H x H' → g x σ H' fun σ2 H2 => tb { D with nx := N, ct := N, bk := D.nx } σ2 H2) := by
 refine ⟨fun i m σ H => m = xs.length - i ∧ i ≤ xs.length ∧ Pv i σ H, ⟨xs.length, by simp, Nat.zero_le _, h0⟩, ?_⟩
 rintro i m σ H ⟨rfl, hi, p⟩
 have q := hl i σ H hi p
 by_cases hlt : i < xs.length
 ·refine .inr ⟨⟨xs, xs[i], q, by simp [hlt]⟩, Pv (i + 1), fun σ' H' p' => ⟨xs.length - (i + 1), by omega, rfl, hlt, p'⟩, fun v H' y => ?_⟩
  obtain ⟨pp, x, hp, e1, e2, hx⟩ := y
  subst e1 e2
  exact hs i x σ H pp (hx xs q) p hp
 ·have e : i = xs.length := by omega
  subst e
  exact .inl ⟨⟨xs, q, Nat.le_refl _⟩, hd σ H p⟩
def gPair (i j : Nat) : TG := fun v σ H Q => ∃ p x y, v = .ref p ∧ H p = some (.tup [x, y]) ∧ Q ((σ.set i (some x)).set j (some y)) H
theorem QcA {X : Cx} {i j : Nat} {x y : Str} {px py pos : Pos} {k : Nat} (hc : X.calm = true) (hN : X.N.Nodup) (hi : X.N[i]? = some x) (hj : X.N[j]? = some y) (hx : Loc X.env.scope x) (hy : Loc X.env.scope y)
  (hfx : X.fn x = true ∨ X.env.scope.names.lookup x = some .local := by first | exact .inl rfl | exact .inr rfl | assumption) (hfy : X.fn y = true ∨ X.env.scope.names.lookup y = some .local := by first | exact .inl rfl | exact .inr rfl | assumption) :
  PG X (.Tuple [.Name x px, .Name y py] k pos) (gPair i j) := by
 intro pins s σ H v u Q I r h
 obtain ⟨p, a, b, rfl, hp, q⟩ := h
 have h := pg_tup (pos := pos) (k := k) (n := 2) hc (QiS (QR (pos := px) (i := i) hN hi hx hfx) (QiS (QR (pos := py) (i := j) hN hj hy hfy) QmQ))
 exact h pins s σ H (.ref p) u Q I r ⟨p, [a, b], rfl, SqT.of hp, rfl, a, [b], rfl, b, [], rfl, rfl, q⟩
section
variable {X : Cx}
def QK (lo : Int) (n : Nat) : List Int := (List.range n).map fun (k : Nat) => lo + (k : Int)
theorem QJ (lo : Int) (n : Nat) : (QK lo n).length = n := by simp [QK]
theorem Qgs {lo : Int} {n i : Nat} (h : i < n) : (QK lo n)[i]? = some (lo + i) := by simp [QK, h]
theorem Qd8 : ∀ {us : List Value} {ns : List Int}, IntsAre us ns → Vals (ns.map V.int) us
 | _, _, .nil => .nil
 | _, _, .cons n t h => .cons ⟨t, rfl⟩ (Qd8 h)
theorem QhU : QfU X (.builtin "sorted") (fun xs H Q => ∃ (a : Addr) (ns : List Int), xs = [.ref a] ∧ SqL X.K H a (ns.map V.int) ∧ ns.length < 64 ∧
  ∀ (p : Addr) (ns' : List Int), H p = none → ns'.Perm ns → ns'.Pairwise (· ≤ ·) → Q (.ref p) (upd H p (.lst (ns'.map V.int)))) := by
 intro pins s σ H xs us Q I r h
 obtain ⟨a, ns, rfl, ha, h64, q⟩ := h
 obtain ⟨u, rfl, ru⟩ := Qhj r
 cases ru
 obtain ⟨its, rv, p, hz⟩ := I.list ha
 have hI : IntsAre its ns := Qju rv
 have hl := hI.length
 refine sorted_ints p.isList hI (by omega) fun out ns' a1 a2 a3 => ?_
 obtain ⟨e, eo⟩ := sortedAll_at s.heap its out
 have hle : s.heap.objs.size ≤ s.heap.objs.size + 1 := Nat.le_succ _
 refine ⟨.ref (s.heap.objs.size + 1), _, I.laid (t' := s.toks) (o := .lst (ns'.map V.int)) (fun b ob q => sortedAll_old q) hle ?_, rfl, q _ ns' (I.hok.fresh hle) a2 a3⟩
 have hlen := a2.length_eq
 exact ⟨by rw [List.length_map, sizeLine_eq]; omega, out.toList, e, Qd8 a1, by simpa using eo⟩
theorem Qgt : ∀ {us : List Value} {ns : List Int}, us.length = ns.length → (∀ (i : Nat) (n : Int) (u : Value), ns[i]? = some n → us[i]? = some u → ∃ t, u = Value.int n t) → IntsAre us ns
 | [], [], _, _ => .nil
 | [], _ :: _, h, _ => by simp at h
 | _ :: _, [], h, _ => by simp at h
 | u :: us, n :: ns, h, f => by
  obtain ⟨t, e⟩ := f 0 n u rfl rfl
  subst e
  exact .cons n t (Qgt (by simpa using h) fun i y v h1 h2 => f (i + 1) y v (by simpa using h1) (by simpa using h2))
theorem QaI (hc : X.A.handled = none) : QfU X (.builtin "sorted") (fun xs H Q => ∃ (d : Addr) (kvs : List (Key × V)) (ns : List Int), xs = [.ref d] ∧ H d = some (.dK kvs) ∧ kvs.map (·.1) = ns.map (fun n => (Sum.inl n : Key)) ∧ ns.length < 64 ∧
  ∀ (p : Addr) (ns' : List Int), H p = none → ns'.Perm ns → ns'.Pairwise (· ≤ ·) → Q (.ref p) (upd H p (.lst (ns'.map V.int)))) := by
 intro pins s σ H xs us Q I r h
 obtain ⟨d, kvs, ns, rfl, hd, hk, h64, q⟩ := h
 obtain ⟨u, rfl, ru⟩ := Qhj r
 cases ru
 obtain ⟨hz, hS, vs, rel, dd⟩ := Qk4 I.hok hd
 obtain ⟨ep, hat⟩ := dd.dictAt
 have hlen : kvs.length = vs.length := rel.length
 have hkl : kvs.length = ns.length := by have := congrArg List.length hk; simpa using this
 have hks : vs.map (·.1) = ns.map (fun n => (Sum.inl n : Key)) := by rw [← hk]; exact (KV.keys rel).symm
 refine Calls.call_function_entry kind_sorted plain_sorted entry_sorted (args_sorted1 _) ?_
 unfold Builtin.«sorted»
 refine wpAny_bind (m := checkCount "sorted" 1 1 _) (wpAny_pure ?_)
 refine wpAny_bind (PySem.W.kdu_collect (A := X.A.in1) (PySem.W.kdl_dict (knd := QS X.prog X.w) (kvs := vs) (ep := ep) hS) hc hat (by rw [← hlen]; exact hz) fun h' tk acc hkp hacc => ?_)
 have hal : acc.toList.length = ns.length := by rw [Array.length_toList, hacc.1, ← hlen, hkl]
 have hI : IntsAre acc.toList ns := Qgt hal fun i n v e1 e2 => by
  obtain ⟨k, x, e3, e4⟩ := hacc.2 i v (by rw [← Array.getElem?_toList]; exact e2)
  have e5 : (vs.map (·.1))[i]? = some k := by rw [List.getElem?_map, e3]; rfl
  rw [hks, List.getElem?_map, e1] at e5
  have e5 : (Sum.inl n : Key) = k := Option.some.inj e5
  subst e5
  have e4 : Value.isInt n v = true := e4
  obtain ⟨t, e⟩ := Value.isInt_shape e4
  exact ⟨t, e⟩
 refine wpAny_bind (wpAny_newList ?_ (by rw [hal, sizeLine_eq]; omega))
 have hoL : (h'.push (seqObj "list" acc.toList.toArray 0)).get? h'.objs.size = some (seqObj "list" acc.toList.toArray 0) := Heap.get?_push_size _ rfl
 refine wpAny_bind (wpAny_holding (wpAny_call_entry slot_list_sort ⟨_, hoL, rfl⟩ entry_list_sort (list_sort_tree (s := { s with heap := h'.push (seqObj "list" acc.toList.toArray 0), toks := tk }) hoL hI (by omega) fun out ns' a1 a2 a3 => ⟨_, rfl, ?_⟩) (args_list_sort _)))
 refine wpAny_pure ⟨_, rfl, ?_⟩
 obtain ⟨e, eo⟩ := sortedHeap_at (out := out) hoL
 have hfree : s.heap.get? h'.objs.size = none := by
  cases z : s.heap.get? h'.objs.size with
  | none => rfl
  | some o0 => exact absurd (Heap.lt_size (hkp _ o0 z)) (Nat.lt_irrefl _)
 refine ⟨.ref h'.objs.size, _, I.laidN (t' := tk) (o := .lst (ns'.map V.int)) (fun b ob q => ?_) hfree ?_, rfl, q _ ns' (I.hok.freeAt hfree) a2 a3⟩
 ·rw [sortedHeap_old (Nat.ne_of_lt (Heap.lt_size (hkp b ob q))) (by rw [size_push']; exact Nat.lt_succ_of_lt (Heap.lt_size (hkp b ob q)))]
  exact Heap.get?_push_of_some _ (hkp b ob q)
 ·exact ⟨by rw [List.length_map, a2.length_eq, sizeLine_eq]; omega, out.toList, e, Qd8 a1, by simpa using eo⟩
end
end L2
namespace L2
open PySem PySem.Spec PyProof.Rows
section
variable {X : Cx}
theorem Qb8 : QfU X (.builtin "isinstance") (fun xs H Q => ∃ x T t b, xs = [x, .ty T] ∧ TyOf X.K H x t ∧ PySem.W.kitOne X.K t (.type T) = some b ∧ Q (.bl b) H) := by
 intro pins s σ H xs us Q I r h
 obtain ⟨x, T, t, b, rfl, ty, e, q⟩ := h
 obtain ⟨u, w', rfl, rx, rT⟩ := Qll r
 cases rT
 exact QkO I rx ty e fun tk => ⟨.bl b, H, I.tok tk, rfl, q⟩
def eqT (xs ys : List V) : Bool := xs.length == ys.length && (xs.zip ys).all fun p => eqV p.1 p.2
def rEqT (K : Fg) : R2 := fun x y H Q => ∃ a b xs ys, x = .ref a ∧ y = .ref b ∧ SqT K H a xs ∧ SqT K H b ys ∧ xs.all QcK = true ∧ ys.all QcK = true ∧ Q (.bl (eqT xs ys)) H
theorem Qi7 {xs : List V} (h : xs.all QcK = true) {i : Nat} {x : V} (e : xs[i]? = some x) : QcK x = true := List.all_eq_true.mp h x (List.mem_of_getElem? e)
theorem QkZ {xs ys : List V} {e : Nat → Bool} (he : ∀ j x y, xs[j]? = some x → ys[j]? = some y → e j = eqV x y) : ((List.range (min xs.length ys.length)).all e && xs.length == ys.length) = eqT xs ys := by
 unfold eqT
 rw [Bool.and_comm]
 congr 1
 rw [Bool.eq_iff_iff, List.all_eq_true, List.all_eq_true]
 constructor
 ·intro h p hp
  obtain ⟨j, hj⟩ := List.getElem?_of_mem hp
  rw [List.getElem?_zip_eq_some] at hj
  have h1 := (List.getElem?_eq_some_iff.mp hj.1).1
  have h2 := (List.getElem?_eq_some_iff.mp hj.2).1
  rw [← he j _ _ hj.1 hj.2]
  exact h j (List.mem_range.mpr (by omega))
 ·intro h j hj
  have hj := List.mem_range.mp hj
  have h1 : xs[j]? = some xs[j] := List.getElem?_eq_getElem (by omega)
  have h2 : ys[j]? = some ys[j] := List.getElem?_eq_getElem (by omega)
  rw [he j _ _ h1 h2]
  exact h (xs[j], ys[j]) (List.mem_of_getElem? (i := j) (List.getElem?_zip_eq_some.mpr ⟨h1, h2⟩))
theorem op_eqT (hu : X.A.units < cLine) : OpR X (compareOp .Eq) (rEqT X.K) := by
 intro pins s σ H x y v u Q I rx ry h
 obtain ⟨a, b, xs, ys, rfl, rfl, ha, hb, fx, fy, q⟩ := h
 cases rx
 cases ry
 obtain ⟨its, r1, p1, _⟩ := I.tuple ha
 obtain ⟨its2, r2, p2, _⟩ := I.tuple hb
 have l1 := r1.length
 have l2 := r2.length
 refine SeqAt.eq_tupleAt (e := fun j => match xs[j]?, ys[j]? with | some x, some y => eqV x y | _, _ => false) (show s.heap.IsTuple a its.toArray from p1) (show s.heap.IsTuple b its2.toArray from p2) hu (fun j h1 h2 => ?_) ?_
 ·have h1 : j < its.length := by simpa using h1
  have h2 : j < its2.length := by simpa using h2
  have e1 : xs[j]? = some (xs[j]'(by omega)) := List.getElem?_eq_getElem (by omega)
  have e2 : ys[j]? = some (ys[j]'(by omega)) := List.getElem?_eq_getElem (by omega)
  obtain ⟨u1, q1, s1⟩ := r1.get e1
  obtain ⟨u2, q2, s2⟩ := r2.get e2
  have w1 : its.toArray[j] = u1 := by
   have := List.getElem?_eq_getElem h1
   rw [q1] at this
   simpa using (Option.some.inj this).symm
  have w2 : its2.toArray[j] = u2 := by
   have := List.getElem?_eq_getElem h2
   rw [q2] at this
   simpa using (Option.some.inj this).symm
  rw [w1, w2, e1, e2]
  exact Qk0 s1 s2 (Qi7 fx e1) (Qi7 fy e2)
 ·rw [List.size_toArray, List.size_toArray, ← l1, ← l2, QkZ (xs := xs) (ys := ys) (fun j x y h1 h2 => by rw [h1, h2])]
  exact ⟨.bl _, H, I, rfl, q⟩
end
structure FunD (K : Fg) (x qual : Str) (st : Stmt) (f : Addr) (fd : FuncData) (ds : List Value) : Prop where
 ex : ∃ (oc : Value) (od : Option Addr) (T : Addr) (kV doc pm : Value) (an : Option Addr) (cdv ct : Value) (osl : Array (Option Value)) (oT : Obj) (n : Nat),
  fd = PySem.W.fnOf x qual (QT st) (Qr st) (Qg st) (.ref T) kV doc pm an cdv ct ∧ K.lookup f = some ⟨oc, od, .func fd, osl⟩ ∧ PySem.W.codeIn K cdv qual = true ∧ K.lookup T = some oT ∧ oT.data = .seq ds.toArray n
 kp : PySem.W.keepIn K (.ref f) = true
section
variable {P : Program} {w : World} {K : Fg} {mg : Str → Option Value} {base : Heap}
theorem FunD.ok {x qual : Str} {st : Stmt} {f : Addr} {fd : FuncData} {ds : List Value} {N ps : List Str} {k : Nat} {sp : Sp} (F : FunD K x qual st f fd ds) (S : Qm N ps (Qg st)) (len : ∀ vs H Q E, sp vs H Q E → vs.length = ps.length)
  (hbody : ∀ (cdv : Value) (A : Around) (outer : List Env) (s : Shared) (H : Hp) (vs : List V) (Q : VK) (E : XK), Room k (A.deeper (envOfC qual (Qg st) s.heap.objs.size f cdv)) → sp vs H Q E →
   ∃ t, PSs (Qli CX0 P w K mg base N qual (Qg st) f cdv A outer s H E).nox (Qr st) t ∧ t { nx := fun _ H' => Q .non H', rt := Q } (start N vs) H) : FnOk P w K mg base CX0 (k + 1) f fd ps sp := by
 obtain ⟨oc, od, T, kV, doc, pm, an, cdv, ct, osl, oT, n, rfl, lk, hcd, _⟩ := F.ex
 refine QlQ lk hcd S len fun A outer s H vs Q E hr hsp => ?_
 obtain ⟨t, h, q⟩ := hbody cdv A outer s H vs Q E hr hsp
 exact ⟨t, h.nox, q⟩
theorem FunD.binds {x qual : Str} {st : Stmt} {f : Addr} {fd : FuncData} {ds es : List Value} {ps : List Str} (F : FunD K x qual st f fd ds)
  (h : ∀ (T : Addr) (kV doc pm : Value) (an : Option Addr) (cdv ct : Value) (us : List Value), (us ++ es).length = ps.length → ∃ k : Option (Array Value) → Sem (List (Str × Value)),
   bindArgs (PySem.W.fnOf x qual (QT st) (Qr st) (Qg st) (.ref T) kV doc pm an cdv ct) ⟨us, []⟩ = seqItems? (.ref T) >>= k ∧ k (some ds.toArray) = pure (ps.zip (us ++ es))) : Binds K fd ps es := by
 obtain ⟨oc, od, T, kV, doc, pm, an, cdv, ct, osl, oT, n, rfl, lk, hcd, hT, hd⟩ := F.ex
 intro s us KX hl
 obtain ⟨k, h1, h2⟩ := h T kV doc pm an cdv ct us hl
 exact BindsTo.of_defaults rfl (KX _ _ hT) hd h1 h2
theorem QkW {x qual : Str} {st : Stmt} {f T : Addr} {oc : Value} {od an : Option Addr} {osl : Array (Option Value)} {kV doc pm cdv ct : Value} {oT : Obj} {ds : List Value} {n : Nat} (l : K.lookup f = some ⟨oc, od, .func (PySem.W.fnOf x qual (QT st) (Qr st) (Qg st) (.ref T) kV doc pm an cdv ct), osl⟩)
  (c : PySem.W.codeIn K cdv qual = true) (k : PySem.W.keepIn K (.ref f) = true) (hT : K.lookup T = some oT) (hd : oT.data = .seq ds.toArray n) : FunD K x qual st f (PySem.W.fnOf x qual (QT st) (Qr st) (Qg st) (.ref T) kV doc pm an cdv ct) ds := ⟨⟨oc, od, T, kV, doc, pm, an, cdv, ct, osl, oT, n, rfl, l, c, hT, hd⟩, k⟩
end
end L2
namespace L2
open PySem PySem.Spec PyProof.Rows
structure QlY (P : Program) (w : World) (K : Fg) (a : Addr) (kvs : List (Key × V)) : Prop where
 at_ : ∃ vs, KV kvs vs ∧ ∀ h : Heap, K.In h → h.DictOf (QS P w) a vs
 ns : (a == sysModules) = false
def tKGet2 (kvs : List (Key × V)) (ty tx : TE) : TE := fun σ H Q => ty σ H fun y H2 => tx σ H2 fun z H3 => ∃ k, y = kV k ∧ Q ((Qa2 kvs k).getD z) H3
theorem Qly {X : Cx} {a : Addr} {kvs : List (Key × V)} {g : Str} {p apos cpos : Pos} {e f : Expr} {ty tx : TE} (D : QlY X.prog X.w X.K a kvs) (hg : Gl X g) (hm : X.mg g = some (.ref a)) (he : PE X e ty) (hf : PE X f tx) (m : M2 X (.Name g p) "get" apos e f cpos)
  (hd : (g == ("__debug__" : Str)) = false := by decide) : PE X (.Call (.Attribute (.Name g p) "get" apos) [e, f] [] cpos) (tKGet2 kvs ty tx) := by
 intro pins s σ H Q I h
 obtain ⟨vs, rel, at_⟩ := D.at_
 refine wpAny_Call_method m.base m.few m.line PySem.F.plainAttrs_dict PySem.F.slot_dict_get PySem.F.type_dict_get (Qej I hg hm ?_ hd)
 have dd := at_ _ I.kIn
 refine ⟨dd.typeIs, fun b q => ?_, ?_⟩
 ·cases q
  obtain ⟨ob, _, _, h1, h2, _⟩ := dd
  exact ⟨ob, h1, h2.2.1⟩
 ·rw [m.trees]
  refine Calls.callWith_builtin rfl (Calls.evalArgs_plain (Calls.spliced_cons (thn (he pins s σ H _ I h) fun iv s2 ⟨y, H2, I2, ry, q2⟩ =>
   Calls.spliced_cons (thn (hf pins s2 σ H2 _ I2 q2) fun fv s3 ⟨z, H3, I3, rz, k, ey, q3⟩ => Calls.spliced_nil ?_))))
  subst ey
  have d3 := at_ _ I3.kIn
  refine call_meetsIn PySem.F.slot_dict_get d3.typeIs PySem.F.entry_dict_get (PySem.F.args_dict_get_3 _ _ _) (meets_dict_get_default (QS X.prog X.w) a (QfL ry) D.ns fv) ⟨_, d3.mapOf, ?_⟩
  exact ⟨_, H3, I3.tok _, (rel.val k).getD rz, q3⟩
theorem kdict2 {P : Program} {w : World} {K : Fg} {a : Addr} {ep : Nat} {h1 h2 : Int} {x1 x2 : Str} {t1 t2 u1 u2 : Tok} {i1 i2 : Int} (lk : K.lookup a = some ⟨.type "dict", none, .dict #[⟨h1, .str x1 t1, .int i1 u1⟩, ⟨h2, .str x2 t2, .int i2 u2⟩] ep, #[]⟩)
  (e1 : h1 = hashStr w x1) (e2 : h2 = hashStr w x2) (ne : x1 ≠ x2) (ns : (a == sysModules) = false) : QlY P w K a [(Sum.inr x1, .int i1), (Sum.inr x2, .int i2)] := by
 refine ⟨⟨[(Sum.inr x1, .int i1 u1), (Sum.inr x2, .int i2 u2)], .cons ⟨rfl, _, rfl⟩ (.cons ⟨rfl, _, rfl⟩ .nil), fun h KX => ?_⟩, ns⟩
 refine ⟨_, _, ep, KX _ _ lk, ⟨rfl, rfl, rfl⟩, rfl, fun e he => ?_, .cons (QcI x1 t1) rfl (.cons (QcI x2 t2) rfl .nil), ?_⟩
 ·have he : e = ⟨h1, .str x1 t1, .int i1 u1⟩ ∨ e = ⟨h2, .str x2 t2, .int i2 u2⟩ := by simpa using he
  rcases he with rfl | rfl
  ·exact ⟨Sum.inr x1, QcI x1 t1, e1⟩
  ·exact ⟨Sum.inr x2, QcI x2 t2, e2⟩
 ·show [(Sum.inr x1 : Key), Sum.inr x2].Nodup
  simp [ne]
end L2
namespace L2
open PySem PySem.Spec PyProof.Rows
section
variable {X : Cx} {pins : Pn} {σ : St} {H : Hp} {s : Shared}
theorem Inv.turnedL {fp : List Addr} {h' : Heap} {t' : Nat} (I : Inv X pins σ H s) (hf : ∀ b ∈ fp, Qhe X pins H b)
  (k : ∀ b ob, b ∉ fp → s.heap.get? b = some ob → h'.get? b = some ob) : Inv X pins σ H { s with heap := h', toks := t' } := by
 have nit : ∀ b u, H b = some u → b ∉ fp := fun b u e z => by rw [(hf b z).1] at e; cases e
 have nL : X.env.locals ∉ fp := fun z => (hf _ z).2.1 rfl
 refine I.step (g' := s.gens) (d' := s.drawn) (ch := fp) (fun b hb => ?_) (fun b o _ _ hc e _ => k b o hc e) (fun b o _ _ hc e _ => ⟨o.slots, k b o hc e⟩) (fun _ _ _ _ n => n)
  (fun b o hc e => ⟨o, k b o hc e⟩) (fun _ _ e => e) (fun _ _ _ e => e) (fun b ps e => ⟨#[], by rw [e]; simp⟩) (fun m hm => ?_) (fun b u e => ?_) I.bare
 ·obtain ⟨_, f1, _, f3, f4, f5⟩ := hf b hb
  exact ⟨f3, f1, f4, f5⟩
 ·obtain ⟨o, es, ep, ho, r⟩ := hm
  exact ⟨o, es, ep, k _ o nL ho, r⟩
 ·refine (I.hok b u e).stay (fun c v hc q => k c v ?_ q) (fun _ q => q) fun _ _ q => q
  rcases hc with z | z
  ·rw [z]; exact nit b u e
  ·exact nit _ _ z
theorem Inv.turnedLN {fp : List Addr} {h' : Heap} {t' : Nat} {o : HO} (I : Inv X pins σ H s) (hf : ∀ b ∈ fp, Qhe X pins H b)
  (k : ∀ b ob, b ∉ fp → s.heap.get? b = some ob → h'.get? b = some ob) (new : ObjOk X.prog X.w (upd H s.heap.objs.size o) h' s.heap.objs.size o) :
  Inv X pins σ (upd H s.heap.objs.size o) { s with heap := h', toks := t' } := by
 have nit : ∀ b u, H b = some u → b ∉ fp := fun b u e z => by rw [(hf b z).1] at e; cases e
 have nL : X.env.locals ∉ fp := fun z => (hf _ z).2.1 rfl
 have ne : ∀ b ob, s.heap.get? b = some ob → b ≠ s.heap.objs.size := fun b ob q => Nat.ne_of_lt (Heap.lt_size q)
 have hn : H s.heap.objs.size = none := I.hok.fresh (Nat.le_refl _)
 refine I.step (g' := s.gens) (d' := s.drawn) (ch := fp) (fun b hb => ?_) (fun b ob _ _ hc q _ => k b ob hc q) (fun b ob _ _ hc q _ => ⟨ob.slots, k b ob hc q⟩)
  (fun b ob _ q n => by rw [Qh (ne b ob q)]; exact n) (fun b ob hc q => ⟨ob, k b ob hc q⟩) (fun b xs q => by rw [Qh (Qf q hn)]; exact q)
  (fun b ob u q => by rw [Qh (Qf q hn)]; exact q) (fun b ps q => ⟨#[], by rw [Qh (Qf q hn), q]; simp⟩) (fun m hm => ?_) (fun b u q => ?_) I.bare
 ·obtain ⟨_, f1, _, f3, f4, f5⟩ := hf b hb
  exact ⟨f3, f1, f4, f5⟩
 ·obtain ⟨ob, es, ep, ho, r⟩ := hm
  exact ⟨ob, es, ep, k _ ob nL ho, r⟩
 ·by_cases hb : b = s.heap.objs.size
  ·subst hb; rw [Qd] at q; cases q; exact new
  ·rw [Qh hb] at q
   refine (I.hok b u q).stay (fun c v hc z => k _ v ?_ z) (fun c z => by rw [Qh (Qf z hn)]; exact z) fun c xs z => by rw [Qh (Qf z hn)]; exact z
   rcases hc with y | y
   ·subst y; exact nit _ _ q
   ·exact nit _ _ y
end
theorem QmR {X : Cx} {K' : Fg} {e : Expr} {f : Str} {pos : Pos} {ta : TE} (h : X.K = K') (he : PE X e ta) (hb : attributeBase e f X.env (eval e X.env) = eval e X.env) : PE X (.Attribute e f pos) (tFld K' ta f) := h ▸ QB he hb
def Itz (a b : Addr) : It :=
  ⟨fun i H => ∃ xs ys x y, H a = some (.lst xs) ∧ H b = some (.lst ys) ∧ xs[i]? = some x ∧ ys[i]? = some y,
   fun i H v H' => ∃ p x y, H p = none ∧ v = .ref p ∧ H' = upd H p (.tup [x, y]) ∧ (∀ xs, H a = some (.lst xs) → xs[i]? = some x) ∧ ∀ ys, H b = some (.lst ys) → ys[i]? = some y,
   fun i H => ∃ xs ys, H a = some (.lst xs) ∧ H b = some (.lst ys) ∧ (xs.length ≤ i ∨ ys.length ≤ i)⟩
theorem Qlm {P : Program} {w : World} {K : Fg} {elts : List Expr} {x1} {pos : Pos} (l1 l2 z TI TO i1 i2 : Addr) (D : ZipApart z TI TO i1 i2 l1 l2) :
  Qm9 P w K (.Tuple elts x1 pos) (Itz l1 l2) [z, TI, TO, i1, i2] z (fun i h => IsZip h z TI TO .none ∧ IsPair h TI (.ref i1) (.ref i2) ∧ (∃ a b, IsPair h TO a b) ∧ h.IsListIter i1 l1 i ∧ h.IsListIter i2 l2 i) where
 mem := by simp
 obj := fun i h st b hb => by
  obtain ⟨hz, hTI, ⟨a, b', hTO⟩, ⟨o1, ho1, hc1, hd1⟩, ⟨o2, ho2, hc2, hd2⟩⟩ := st
  simp only [List.mem_cons, List.not_mem_nil, or_false] at hb
  rcases hb with rfl | rfl | rfl | rfl | rfl
  ·exact ⟨_, hz, fun v z => by cases z⟩
  ·exact ⟨_, hTI, fun v z => by cases z⟩
  ·exact ⟨_, hTO, fun v z => by cases z⟩
  ·exact ⟨o1, ho1, fun v z => by rw [hd1] at z; cases z⟩
  ·exact ⟨o2, ho2, fun v z => by rw [hd2] at z; cases z⟩
 keep := fun i h h' ⟨hz, hTI, ⟨a, b, hTO⟩, h1, h2⟩ k => ⟨k z (by simp) _ hz, k TI (by simp) _ hTI, ⟨a, b, k TO (by simp) _ hTO⟩, h1.at fun o q => k i1 (by simp) o q, h2.at fun o q => k i2 (by simp) o q⟩
 item := by
  intro X hP hw hK hc i pins s σ H E I hf st hg
  subst hP hw hK
  obtain ⟨hz, hTI, ⟨a, b, hTO⟩, h1, h2⟩ := st
  obtain ⟨xs, ys, x, y, hq, hq2, hx, hy⟩ := hg
  obtain ⟨its, rv, p, hsz⟩ := I.list (SqL.of hq)
  obtain ⟨its2, rv2, p2, hsz2⟩ := I.list (SqL.of hq2)
  obtain ⟨u, hu, ru⟩ := rv.get hx
  obtain ⟨u2, hu2, ru2⟩ := rv2.get hy
  refine wpAny_pyNext_zip_item D hz hTI hTO h1 h2 p.isList p2.isList (x := u) (y := u2) (by simpa using hu) (by simpa using hu2) fun h3 hz3 hTO3 h13 h23 ht3 hs3 hk3 => ⟨_, rfl, ?_⟩
  refine wpAny_letOwnedTupleGo_zip hz3 fun h4 hz4 hs4 => ?_
  have hs4 : Heap.SameBut z h3 h4 := hs4
  have hzH : z < s.heap.objs.size := Heap.lt_size hz
  have hn : H s.heap.objs.size = none := I.hok.fresh (Nat.le_refl _)
  have ht4 : h4.get? s.heap.objs.size = some { cls := .type "tuple", data := .seq #[u, u2] } := (hs4.2 _ (Nat.ne_of_gt hzH)).trans ht3
  have kk : ∀ b ob, b ∉ [z, TI, TO, i1, i2] → s.heap.get? b = some ob → h4.get? b = some ob := fun b ob hb e => by
   simp only [List.mem_cons, List.not_mem_nil, or_false, not_or] at hb
   exact (hs4.2 b hb.1).trans (hk3 b ob hb.1 hb.2.2.1 hb.2.2.2.1 hb.2.2.2.2 e)
  have I2 : Inv X pins σ (upd H s.heap.objs.size (.tup [x, y])) { s with heap := h4, toks := s.toks } := by
   refine I.turnedLN hf kk ?_
   exact ⟨by rw [sizeLine_eq]; simp, [u, u2], .cons ru (.cons ru2 .nil), ⟨_, ht4, rfl, 0, rfl⟩⟩
  refine ⟨.ref s.heap.objs.size, _, I2, rfl, ⟨_, x, y, hn, rfl, rfl, fun zs hy' => ?_, fun zs hy' => ?_⟩, ⟨hz4, ?_, ⟨u, u2, ?_⟩, ?_, ?_⟩, fun b hb => ?_⟩
  ·rw [hq] at hy'; cases hy'; exact hx
  ·rw [hq2] at hy'; cases hy'; exact hy
  ·exact (hs4.2 _ D.TIz).trans (hk3 _ _ D.TIz D.TITO D.TIi1 D.TIi2 hTI)
  ·exact (hs4.2 _ D.TOz).trans hTO3
  ·exact h13.extBut hs4.extBut D.i1z
  ·exact h23.extBut hs4.extBut D.i2z
  ·rw [Qh]
   ·exact (hf b hb).1
   ·obtain ⟨o1, ho1, _⟩ := h1
    obtain ⟨o2, ho2, _⟩ := h2
    simp only [List.mem_cons, List.not_mem_nil, or_false] at hb
    rcases hb with rfl | rfl | rfl | rfl | rfl
    ·exact Nat.ne_of_lt hzH
    ·exact Nat.ne_of_lt (Heap.lt_size hTI)
    ·exact Nat.ne_of_lt (Heap.lt_size hTO)
    ·exact Nat.ne_of_lt (Heap.lt_size ho1)
    ·exact Nat.ne_of_lt (Heap.lt_size ho2)
 done := by
  intro X hP hw hK hc i pins s σ H E I hf st hg
  subst hP hw hK
  obtain ⟨hz, hTI, ⟨a, b, hTO⟩, h1, h2⟩ := st
  obtain ⟨xs, ys, hq, hq2, hx⟩ := hg
  obtain ⟨its, rv, p, hsz⟩ := I.list (SqL.of hq)
  obtain ⟨its2, rv2, p2, hsz2⟩ := I.list (SqL.of hq2)
  have hl := rv.length
  have hl2 := rv2.length
  refine wpAny_pyNext_zip_end (I.ok.hd hc) D hz hTI hTO h1 h2 p.isList p2.isList ?_ fun h' eb => ⟨rfl, I.turnedL (t' := s.toks) hf fun b ob hb e => ?_⟩
  ·rcases hx with hx | hx
   ·left; simp; omega
   ·right; simp; omega
  ·simp only [List.mem_cons, List.not_mem_nil, or_false, not_or] at hb
   exact eb b ob hb.1 hb.2.2.1 hb.2.2.2.1 hb.2.2.2.2 e
 self := fun _ _ _ _ _ ⟨hz, _⟩ h => wpAny_pyIter_zip hz h
section
variable {X : Cx}
def iZip (ta : TA) : TI := fun σ H R => ta σ H fun vs H1 => ∃ a b xs ys, vs = [.ref a, .ref b] ∧ H1 a = some (.lst xs) ∧ H1 b = some (.lst ys) ∧ R (Itz a b) H1
theorem pi_zip {elts : List Expr} {x1} {tpos : Pos} {l m : Expr} {ta : TA} {p pos : Pos} (hg : Gl X "zip") (hm : X.mg "zip" = none) (ha : PA X [l, m] ta)
  (hs : starEach [l, m] X.env = [(false, eval l X.env), (false, eval m X.env)] := by rfl) (hs2 : starEach [m] X.env = [(false, eval m X.env)] := by rfl) :
  PI X (.Tuple elts x1 tpos) (.Call (.Name "zip" p) [l, m] [] pos) (iZip ta) := by
 intro pins s σ H R I h
 refine Call_ (QfJ I hg hm boot_zip (PyProof.Rows.callWith_type1 (thn (ha pos pins s σ H _ I h) fun us s1 ⟨vs, H1, I1, r1, q1⟩ => ?_) (by rw [hs, hs2]) (by rw [hs2]; rfl)))
 obtain ⟨a, b, xs, ys, e, hq, hq2, q⟩ := q1
 subst e
 obtain ⟨u, u2, rfl, ru, ru2⟩ := Qll r1
 cases ru
 cases ru2
 obtain ⟨its, rv, p1, hsz⟩ := I1.list (SqL.of hq)
 obtain ⟨its2, rv2, p2, hsz2⟩ := I1.list (SqL.of hq2)
 obtain ⟨o1, ho1, _⟩ := p1.isList
 obtain ⟨o2, ho2, _⟩ := p2.isList
 refine call_zip_2 p1.isList p2.isList fun h' hz hTI hTO hi1 hi2 hsz hk => wpAny_pyIter_zip hz ?_
 have I2 : Inv X pins σ H1 { s1 with heap := h' } := I1.kept (t' := s1.toks) hk
 refine ⟨_, [s1.heap.objs.size + 4, s1.heap.objs.size + 2, s1.heap.objs.size + 3, s1.heap.objs.size, s1.heap.objs.size + 1], _, _, H1, rfl, I2,
  Qlm a b _ _ _ _ _ (zipApart_new (Heap.lt_size ho1) (Heap.lt_size ho2)), ⟨hz, hTI, ⟨_, _, hTO⟩, hi1, hi2⟩, fun c hc => ?_, q⟩
 have hc : s1.heap.objs.size ≤ c := by
  simp only [List.mem_cons, List.not_mem_nil, or_false] at hc
  rcases hc with rfl | rfl | rfl | rfl | rfl <;> omega
 exact I1.fpOk hc (I1.hok.fresh hc)
end
theorem Qm3 {a b : Addr} {xs ys : List V} {g : TG} {tb : TS} {D : QjL} {σ : St} {H : Hp} (Pv : Nat → St → Hp → Prop) (he : xs.length = ys.length) (h0 : Pv 0 σ H) (hl : ∀ i σ H, i ≤ xs.length → Pv i σ H → H a = some (.lst xs) ∧ H b = some (.lst ys))
  (hs : ∀ i x y σ H p, xs[i]? = some x → ys[i]? = some y → Pv i σ H → H p = none → g (.ref p) σ (upd H p (.tup [x, y])) fun σ2 H2 => tb { D with nx := Pv (i + 1), ct := Pv (i + 1), bk := D.nx } σ2 H2) (hd : ∀ σ H, Pv xs.length σ H → D.nx σ H) :
  ∃ W : Nat → Nat → St → Hp → Prop, (∃ m, W 0 m σ H) ∧ ∀ i m σ H, W i m σ H →
   ((Itz a b).stop i H ∧ D.nx σ H) ∨ ((Itz a b).go i H ∧ ∃ N : St → Hp → Prop, (∀ σ' H', N σ' H' → ∃ m', m' < m ∧ W (i + 1) m' σ' H') ∧ ∀ x H', (Itz a b).yld i H x H' → g x σ H' fun σ2 H2 => tb { D with nx := N, ct := N, bk := D.nx } σ2 H2) := by
 refine ⟨fun i m σ H => m = xs.length - i ∧ i ≤ xs.length ∧ Pv i σ H, ⟨xs.length, by simp, Nat.zero_le _, h0⟩, ?_⟩
 rintro i m σ H ⟨rfl, hi, p⟩
 obtain ⟨q, q2⟩ := hl i σ H hi p
 by_cases hlt : i < xs.length
 ·have hlt2 : i < ys.length := by omega
  refine .inr ⟨⟨xs, ys, xs[i], ys[i], q, q2, by simp [hlt], by simp [hlt2]⟩, Pv (i + 1), fun σ' H' p' => ⟨xs.length - (i + 1), by omega, rfl, hlt, p'⟩, fun v H' y => ?_⟩
  obtain ⟨pp, x, y, hp, e1, e2, hx, hy⟩ := y
  subst e1 e2
  exact hs i x y σ H pp (hx xs q) (hy ys q2) p hp
 ·have e : i = xs.length := by omega
  subst e
  exact .inl ⟨⟨xs, ys, q, q2, .inl (Nat.le_refl _)⟩, hd σ H p⟩
end L2
namespace LW
open PySem L2
section
variable {κ : Type} [DecidableEq κ]
theorem Qd9 {kvs : List (κ × V)} (nd : (kvs.map (·.1)).Nodup) {i : Nat} {k : κ} {v : V} (h : kvs[i]? = some (k, v)) : Qa2 kvs k = some v := by
 induction kvs generalizing i with
 | nil => simp at h
 | cons p r ih =>
  have nd : (p.1 :: r.map (·.1)).Nodup := nd
  obtain ⟨n1, n2⟩ := List.nodup_cons.mp nd
  cases i with
  | zero =>
   have h : p = (k, v) := by simpa using h
   subst h
   exact QcL rfl
  | succ i =>
   have h : r[i]? = some (k, v) := by simpa using h
   have hk : k ∈ r.map (·.1) := List.mem_map.mpr ⟨(k, v), List.mem_of_getElem? h, rfl⟩
   rw [QcN (fun e => n1 (by rw [e]; exact hk))]
   exact ih n2 h
theorem QcM {kvs : List (κ × V)} {k : κ} (h : ¬ k ∈ kvs.map (·.1)) : Qa2 kvs k = none := by
 cases e : Qa2 kvs k with
 | none => rfl
 | some v => exact absurd (Qh5 e) h
theorem Qi4 {kvs : List (κ × V)} (nd : (kvs.map (·.1)).Nodup) {i : Nat} {k : κ} {v : V} (h : kvs[i]? = some (k, v)) : Qek kvs k = kvs.eraseIdx i := by
 induction kvs generalizing i with
 | nil => simp at h
 | cons p r ih =>
  have nd : (p.1 :: r.map (·.1)).Nodup := nd
  obtain ⟨n1, n2⟩ := List.nodup_cons.mp nd
  cases i with
  | zero =>
   have h : p = (k, v) := by simpa using h
   subst h
   rw [Qk1 rfl, Qi3 n1]
   rfl
  | succ i =>
   have h : r[i]? = some (k, v) := by simpa using h
   have hk : k ∈ r.map (·.1) := List.mem_map.mpr ⟨(k, v), List.mem_of_getElem? h, rfl⟩
   rw [QhP (fun e => n1 (by rw [e]; exact hk)), ih n2 h]
   rfl
end
section
variable {α β : Type} {F G : α → β → Prop}
theorem Zt : ∀ {xs : List α} {ys : List β} {i : Nat} {x : α}, Paired F xs ys → xs[i]? = some x → ∃ y, ys[i]? = some y ∧ F x y
 | _, _, _, _, .nil, h => by simp at h
 | _, _, 0, _, .cons r _, h => by simp at h; subst h; exact ⟨_, rfl, r⟩
 | _, _, i + 1, x, .cons _ t, h => by
  obtain ⟨y, h1, h2⟩ := Zt (i := i) (x := x) t (by simpa using h)
  exact ⟨y, by simpa using h1, h2⟩
theorem QM : ∀ {xs : List α} {ys : List β} {i : Nat} {y : β}, Paired F xs ys → ys[i]? = some y → ∃ x, xs[i]? = some x ∧ F x y
 | _, _, _, _, .nil, h => by simp at h
 | _, _, 0, _, .cons r _, h => by simp at h; subst h; exact ⟨_, rfl, r⟩
 | _, _, i + 1, x, .cons _ t, h => by
  obtain ⟨y, h1, h2⟩ := QM (i := i) (y := x) t (by simpa using h)
  exact ⟨y, by simpa using h1, h2⟩
theorem Qkn {x : α} {y : β} (r : F x y) : ∀ {xs : List α} {ys : List β} (i : Nat), Paired F xs ys → Paired F (xs.set i x) (ys.set i y)
 | _, _, _, .nil => .nil
 | _, _, 0, .cons _ t => .cons r t
 | _, _, i + 1, .cons q t => .cons q (Qkn r i t)
theorem Qbc : ∀ {xs xs' : List α} {ys ys' : List β}, Paired F xs ys → Paired F xs' ys' → Paired F (xs ++ xs') (ys ++ ys')
 | _, _, _, _, .nil, s => s
 | _, _, _, _, .cons r t, s => .cons r (Qbc t s)
theorem QH (f : ∀ a b, a ∈ (xs : List α) → b ∈ (ys : List β) → F a b → G a b) (h : Paired F xs ys) : Paired G xs ys := by
 induction h with
 | nil => exact .nil
 | cons r t ih => exact .cons (f _ _ List.mem_cons_self List.mem_cons_self r) (ih fun a b ha hb => f a b (List.mem_cons_of_mem _ ha) (List.mem_cons_of_mem _ hb))
theorem QiQ : ∀ {xs : List α} {ys : List β} (i : Nat), Paired F xs ys → Paired F (xs.eraseIdx i) (ys.eraseIdx i)
 | _, _, _, .nil => .nil
 | _, _, 0, .cons _ t => t
 | _, _, i + 1, .cons r t => .cons r (QiQ i t)
theorem Qko {x : α} {y : β} (r : F x y) : ∀ n : Nat, Paired F (List.replicate n x) (List.replicate n y)
 | 0 => .nil
 | n + 1 => .cons r (Qko r n)
theorem QG {xs : List α} {ys : List β} (h : Paired F xs ys) : xs.length = ys.length := Paired.length h
end
inductive T where
 | non | num (i : Int) | box (n : Int)
 deriving DecidableEq
def isT (H : Hp) : T → V → Prop
 | .non, v => v = .non
 | .num i, v => v = .int i
 | .box n, v => ∃ a, v = .ref a ∧ H a = some (.tup [.str "box", .int n])
def Tups (H H' : Hp) : Prop := ∀ b xs, H b = some (.tup xs) → H' b = some (.tup xs)
theorem Tups.refl (H : Hp) : Tups H H := fun _ _ h => h
theorem Tups.trans {H H1 H2 : Hp} (a : Tups H H1) (b : Tups H1 H2) : Tups H H2 := fun c xs h => b c xs (a c xs h)
theorem Tups.of_same {H H' : Hp} (s : Same H H') : Tups H H' := fun b _ h => s b _ h
theorem Tups.upd {H : Hp} {a : Addr} {o o' : HO} (h : H a = some o') (n : ∀ xs, o' ≠ .tup xs) : Tups H (upd H a o) := fun b xs q => by
 rw [Qh]
 ·exact q
 ·rintro rfl
  rw [h] at q
  cases q
  exact n xs rfl
theorem Tups.new {H : Hp} {a : Addr} {o : HO} (h : H a = none) : Tups H (L2.upd H a o) := fun b xs q => by rw [Qh (Qf q h)]; exact q
theorem isT.keep {H H' : Hp} {t : T} {v : V} (k : Tups H H') (h : isT H t v) : isT H' t v := by
 cases t with
 | non => exact h
 | num i => exact h
 | box n => obtain ⟨a, e, q⟩ := h; exact ⟨a, e, k _ _ q⟩
abbrev Ths (H : Hp) : List T → List V → Prop := Paired (isT H)
theorem Ths.keep {H H' : Hp} {ts : List T} {vs : List V} (k : Tups H H') (h : Ths H ts vs) : Ths H' ts vs := QH (fun _ _ _ _ z => z.keep k) h
def ThL (H : Hp) (ts : List T) (a : Addr) : Prop := ∃ vs, H a = some (.lst vs) ∧ Ths H ts vs
def QjK (H : Hp) (ns : List Int) (a : Addr) : Prop := H a = some (.lst (ns.map V.int))
theorem ThL.keep {H H' : Hp} {ts : List T} {a : Addr} (k : Tups H H') (e : H' a = H a) (h : ThL H ts a) : ThL H' ts a := let ⟨vs, h1, h2⟩ := h; ⟨vs, e.trans h1, h2.keep k⟩
structure Box where
 name : Int
 kind : Str
 row : List T
structure HS where
 room : Int
 slots : List T
 last : Int
 boxes : List Box
 queues : List (List Int)
 told : List (List Int)
structure HA where
 dx : Addr
 sl : Addr
 kd : Addr
 fd : Addr
 fl : List Addr
 qs : Addr
 ql : List Addr
 td : Addr
 tl : List Addr
def HA.lists (A : HA) : List Addr := A.sl :: A.qs :: A.td :: (A.fl ++ (A.ql ++ A.tl))
def HA.foot (A : HA) (p : Addr) : List Addr := p :: A.kd :: A.fd :: A.lists
def QbL (A : HA) (S : HS) : List (Str × V) :=
 [("room", .int S.room), ("slots", .ref A.sl), ("last_name", .int S.last), ("kinds", .ref A.kd), ("fields", .ref A.fd), ("queues", .ref A.qs), ("told", .ref A.td)]
def Qx (bs : List Box) : List (Key × V) := bs.map fun b => ((Sum.inl b.name : Key), V.str b.kind)
def Qt (bs : List Box) (fl : List Addr) : List (Key × V) := (bs.zip fl).map fun q => ((Sum.inl q.1.name : Key), V.ref q.2)
structure HouseAt (C : Addr) (H : Hp) (p : Addr) (A : HA) (S : HS) : Prop where
 ob : H p = some (.ins C A.dx (QbL A S))
 sl : ThL H S.slots A.sl
 kd : H A.kd = some (.dK (Qx S.boxes))
 fd : H A.fd = some (.dK (Qt S.boxes A.fl))
 fl : Paired (fun b a => ThL H b.row a) S.boxes A.fl
 qs : H A.qs = some (.lst (A.ql.map V.ref))
 ql : Paired (QjK H) S.queues A.ql
 td : H A.td = some (.lst (A.tl.map V.ref))
 tl : Paired (QjK H) S.told A.tl
 nd : A.lists.Nodup
 kf : A.kd ≠ A.fd
 asc : (S.boxes.map (·.name)).Pairwise (· < ·)
 top : ∀ b ∈ S.boxes, b.name ≤ S.last
theorem HouseAt.nm {C : Addr} {H : Hp} {p : Addr} {A : HA} {S : HS} (h : HouseAt C H p A S) : (S.boxes.map (·.name)).Nodup := h.asc.imp fun z => Int.ne_of_lt z
def Frame (F : List Addr) (H H' : Hp) : Prop := ∀ b o, H b = some o → b ∉ F → H' b = some o
theorem Frame.of_same {F : List Addr} {H H' : Hp} (s : Same H H') : Frame F H H' := fun b o h _ => s b o h
theorem Frame.refl (F : List Addr) (H : Hp) : Frame F H H := fun _ _ h _ => h
def Grown (F F' : List Addr) (H : Hp) : Prop := ∀ b ∈ F', b ∈ F ∨ H b = none
theorem Grown.refl (F : List Addr) (H : Hp) : Grown F F H := fun _ h => .inl h
theorem Grown.out {F F' : List Addr} {H : Hp} (g : Grown F F' H) {b : Addr} {o : HO} (h : H b = some o) (n : b ∉ F) : b ∉ F' := fun z => by
 rcases g b z with q | q
 ·exact n q
 ·rw [h] at q; cases q
section
variable {C : Addr} {H H' : Hp} {p : Addr} {A : HA} {S : HS}
theorem HouseAt.keep (h : HouseAt C H p A S) (k : ∀ b ∈ A.foot p, H' b = H b) (t : Tups H H') : HouseAt C H' p A S where
 ob := (k p (by simp [HA.foot])).trans h.ob
 sl := h.sl.keep t (k _ (by simp [HA.foot, HA.lists]))
 kd := (k _ (by simp [HA.foot])).trans h.kd
 fd := (k _ (by simp [HA.foot])).trans h.fd
 fl := QH (fun b a _ ha z => z.keep t (k _ (by simp [HA.foot, HA.lists, ha]))) h.fl
 qs := (k _ (by simp [HA.foot, HA.lists])).trans h.qs
 ql := QH (fun b a _ ha z => (k _ (by simp [HA.foot, HA.lists, ha])).trans z) h.ql
 td := (k _ (by simp [HA.foot, HA.lists])).trans h.td
 tl := QH (fun b a _ ha z => (k _ (by simp [HA.foot, HA.lists, ha])).trans z) h.tl
 nd := h.nd
 kf := h.kf
 asc := h.asc
 top := h.top
theorem HouseAt.there (h : HouseAt C H p A S) : ∀ b ∈ A.foot p, ∃ o, H b = some o := fun b hb => by
 have hb : b = p ∨ b = A.kd ∨ b = A.fd ∨ b = A.sl ∨ b = A.qs ∨ b = A.td ∨ b ∈ A.fl ∨ b ∈ A.ql ∨ b ∈ A.tl := by simpa [HA.foot, HA.lists] using hb
 rcases hb with e | e | e | e | e | e | e | e | e
 ·exact ⟨_, e ▸ h.ob⟩
 ·exact ⟨_, e ▸ h.kd⟩
 ·exact ⟨_, e ▸ h.fd⟩
 ·obtain ⟨vs, q, _⟩ := h.sl; exact ⟨_, e ▸ q⟩
 ·exact ⟨_, e ▸ h.qs⟩
 ·exact ⟨_, e ▸ h.td⟩
 ·obtain ⟨i, hi⟩ := List.getElem?_of_mem e
  obtain ⟨x, _, vs, q, _⟩ := QM h.fl hi
  exact ⟨_, q⟩
 ·obtain ⟨i, hi⟩ := List.getElem?_of_mem e
  obtain ⟨x, _, q⟩ := QM h.ql hi
  exact ⟨_, q⟩
 ·obtain ⟨i, hi⟩ := List.getElem?_of_mem e
  obtain ⟨x, _, q⟩ := QM h.tl hi
  exact ⟨_, q⟩
theorem HouseAt.same (h : HouseAt C H p A S) (s : Same H H') : HouseAt C H' p A S := h.keep (fun b hb => by
 obtain ⟨o, q⟩ := h.there b hb
 rw [q]; exact s _ _ q) (Tups.of_same s)
theorem HouseAt.new (h : HouseAt C H p A S) {a : Addr} {o : HO} (n : H a = none) : HouseAt C (upd H a o) p A S := h.same fun b u q => by rw [Qh (Qf q n)]; exact q
theorem HouseAt.out (h : HouseAt C H p A S) {a : Addr} (n : H a = none) : a ∉ A.foot p := fun z => by
 obtain ⟨o, q⟩ := h.there a z
 rw [n] at q; cases q
theorem HouseAt.isL (h : HouseAt C H p A S) : ∀ b ∈ A.lists, ∃ vs, H b = some (.lst vs) := fun b hb => by
 have hb : b = A.sl ∨ b = A.qs ∨ b = A.td ∨ b ∈ A.fl ∨ b ∈ A.ql ∨ b ∈ A.tl := by simpa [HA.lists] using hb
 rcases hb with e | e | e | e | e | e
 ·obtain ⟨vs, q, _⟩ := h.sl; exact ⟨_, e ▸ q⟩
 ·exact ⟨_, e ▸ h.qs⟩
 ·exact ⟨_, e ▸ h.td⟩
 ·obtain ⟨i, hi⟩ := List.getElem?_of_mem e
  obtain ⟨x, _, vs, q, _⟩ := QM h.fl hi
  exact ⟨_, q⟩
 ·obtain ⟨i, hi⟩ := List.getElem?_of_mem e
  obtain ⟨x, _, q⟩ := QM h.ql hi
  exact ⟨_, q⟩
 ·obtain ⟨i, hi⟩ := List.getElem?_of_mem e
  obtain ⟨x, _, q⟩ := QM h.tl hi
  exact ⟨_, q⟩
end
end LW
namespace LW
open PySem L2
structure Imm (H H' : Hp) : Prop where
 t : Tups H H'
 f : ∀ b o u, H b = some (.frz o u) → H' b = some (.frz o u)
theorem Imm.same {H H' : Hp} (s : Same H H') : Imm H H' := ⟨Tups.of_same s, fun b _ _ h => s b _ h⟩
theorem Same.new {H : Hp} {a : Addr} {o : HO} (h : H a = none) : Same H (upd H a o) := fun b u q => by rw [Qh (Qf q h)]; exact q
theorem Imm.new {H : Hp} {a : Addr} {o : HO} (h : H a = none) : Imm H (upd H a o) := Imm.same (Same.new h)
structure Rt where
 on : Hp → List Addr → Prop
 keep : ∀ {H H' : Hp} {F : List Addr}, on H F → (∀ b ∈ F, H' b = H b) → Imm H H' → on H' F
 there : ∀ {H : Hp} {F : List Addr}, on H F → ∀ b ∈ F, ∃ o, H b = some o
def Own (H : Hp) (W : List Rt) : Prop := ∃ Fs : List (List Addr), Paired (fun r F => r.on H F) W Fs ∧ Fs.flatten.Nodup
theorem QlR {α : Type} {Fs : List (List α)} {i : Nat} {F : List α} (h : Fs[i]? = some F) {b : α} (hb : b ∈ F) : b ∈ Fs.flatten := List.mem_flatten.mpr ⟨F, List.mem_of_getElem? h, hb⟩
def QaU {α : Type} (Fs : List (List α)) (i : Nat) : List α := (Fs.eraseIdx i).flatten
theorem QgZ {α : Type} : ∀ {Fs : List (List α)} {i : Nat} {F : List α}, Fs[i]? = some F → Fs.flatten.Nodup → F.Nodup ∧ (QaU Fs i).Nodup ∧ (∀ b ∈ F, b ∉ QaU Fs i)
 | [], _, _, h, _ => by simp at h
 | F0 :: Fs, 0, F, h, nd => by
  have h : F0 = F := by simpa using h
  subst h
  rw [List.flatten_cons] at nd
  obtain ⟨a, b, c⟩ := List.nodup_append.mp nd
  exact ⟨a, b, fun x hx hy => c x hx x hy rfl⟩
 | F0 :: Fs, i + 1, F, h, nd => by
  have h : Fs[i]? = some F := by simpa using h
  rw [List.flatten_cons] at nd
  obtain ⟨a, b, c⟩ := List.nodup_append.mp nd
  obtain ⟨x1, x2, x3⟩ := QgZ h b
  have sub : ∀ y ∈ QaU Fs i, y ∈ Fs.flatten := fun y hy => by
   obtain ⟨G, hG, hy⟩ := List.mem_flatten.mp hy
   exact List.mem_flatten.mpr ⟨G, List.mem_of_mem_eraseIdx hG, hy⟩
  refine ⟨x1, ?_, fun y hy hz => ?_⟩
  ·show (F0 :: Fs.eraseIdx i).flatten.Nodup
   rw [List.flatten_cons]
   exact List.nodup_append.mpr ⟨a, x2, fun p hp q hq => c p hp q (sub q hq)⟩
  ·have hz : y ∈ F0 ++ QaU Fs i := hz
   rcases List.mem_append.mp hz with z | z
   ·exact c y z y (QlR h hy) rfl
   ·exact x3 y hy z
theorem QcG {α : Type} : ∀ {Fs : List (List α)} {i : Nat} {F' : List α} {x : α}, x ∈ (Fs.set i F').flatten → x ∈ F' ∨ x ∈ QaU Fs i
 | [], _, _, _, h => by simp at h
 | G :: Gs, 0, F', x, h => by
  have h : x ∈ F' ++ Gs.flatten := h
  rcases List.mem_append.mp h with z | z
  ·exact .inl z
  ·exact .inr z
 | G :: Gs, i + 1, F', x, h => by
  have h : x ∈ G ++ (Gs.set i F').flatten := h
  rcases List.mem_append.mp h with z | z
  ·exact .inr (show x ∈ G ++ QaU Gs i from List.mem_append_left _ z)
  ·rcases QcG z with q | q
   ·exact .inl q
   ·exact .inr (show x ∈ G ++ QaU Gs i from List.mem_append_right _ q)
theorem Qim {α : Type} : ∀ {Fs : List (List α)} {i : Nat} {F F' : List α}, Fs[i]? = some F → F'.Nodup → (QaU Fs i).Nodup → (∀ b ∈ F', b ∉ QaU Fs i) → (Fs.set i F').flatten.Nodup
 | [], _, _, _, h, _, _, _ => by simp at h
 | F0 :: Fs, 0, F, F', h, a, b, c => by
  show (F' :: Fs).flatten.Nodup
  rw [List.flatten_cons]
  exact List.nodup_append.mpr ⟨a, b, fun x hx y hy e => c x hx (e ▸ hy)⟩
 | F0 :: Fs, i + 1, F, F', h, a, b, c => by
  have h : Fs[i]? = some F := by simpa using h
  have b : (F0 ++ QaU Fs i).Nodup := b
  obtain ⟨b1, b2, b3⟩ := List.nodup_append.mp b
  have c : ∀ x ∈ F', x ∉ F0 ++ QaU Fs i := c
  show (F0 :: Fs.set i F').flatten.Nodup
  rw [List.flatten_cons]
  refine List.nodup_append.mpr ⟨b1, Qim h a b2 (fun x hx z => c x hx (List.mem_append_right _ z)), fun x hx y hy e => ?_⟩
  subst e
  rcases QcG hy with z | z
  ·exact c x z (List.mem_append_left _ hx)
  ·exact b3 x hx x z rfl
theorem Qed {α β : Type} {F G : α → β → Prop} {x : α} {y : β} : ∀ {xs : List α} {ys : List β} {i : Nat}, Paired F xs ys → G x y → (∀ (j : Nat) a b, j ≠ i → xs[j]? = some a → ys[j]? = some b → F a b → G a b) → Paired G (xs.set i x) (ys.set i y)
 | _, _, _, .nil, _, _ => .nil
 | _, _, 0, .cons _ t, g, f => .cons g (by
   have f' : ∀ (j : Nat) a b, _ → _ → F a b → G a b := fun j a b => f (j + 1) a b (by omega)
   clear f
   induction t with
   | nil => exact .nil
   | cons r s ih => exact .cons (f' 0 _ _ rfl rfl r) (ih fun j a b h1 h2 => f' (j + 1) a b (by simpa using h1) (by simpa using h2)))
 | _, _, i + 1, .cons r t, g, f => .cons (f 0 _ _ (by omega) rfl rfl r) (Qed t g fun j a b hj h1 h2 => f (j + 1) a b (by omega) (by simpa using h1) (by simpa using h2))
section
variable {H H' : Hp} {W : List Rt} {i : Nat} {r r' : Rt} {l : Addr} {o : HO}
theorem Own.get (w : Own H W) (h : W[i]? = some r) : ∃ F, r.on H F := by
 obtain ⟨Fs, p, _⟩ := w
 obtain ⟨F, _, q⟩ := Zt p h
 exact ⟨F, q⟩
theorem Own.same (w : Own H W) (s : Same H H') : Own H' W := by
 obtain ⟨Fs, p, nd⟩ := w
 exact ⟨Fs, QH (fun r F _ _ z => r.keep z (fun b hb => by
  obtain ⟨o, e⟩ := r.there z b hb
  rw [e]; exact s _ _ e) (Imm.same s)) p, nd⟩
theorem Own.out (w : Own H W) (h : H l = none) : ∀ Fs, Paired (fun r F => r.on H F) W Fs → l ∉ Fs.flatten := fun Fs p z => by
 obtain ⟨F, hF, hb⟩ := List.mem_flatten.mp z
 obtain ⟨j, hj⟩ := List.getElem?_of_mem hF
 obtain ⟨r, _, q⟩ := QM p hj
 obtain ⟨o, e⟩ := r.there q l hb
 rw [h] at e; cases e
theorem Own.new (w : Own H W) (h : H l = none) (n : r.on (upd H l o) [l]) : Own (upd H l o) (r :: W) := by
 have w2 := w
 obtain ⟨Fs, p, nd⟩ := w
 have ho := w2.out h Fs p
 refine ⟨[l] :: Fs, .cons n (QH (fun r F _ hF z => r.keep z (fun b hb => Qh fun e => ?_) (Imm.new h)) p), ?_⟩
 ·subst e
  exact ho (List.mem_flatten.mpr ⟨F, hF, hb⟩)
 ·show (l :: Fs.flatten).Nodup
  exact List.nodup_cons.mpr ⟨ho, nd⟩
theorem Own.imm (w : Own H W) (n : r.on H []) : Own H (r :: W) := by
 obtain ⟨Fs, p, nd⟩ := w
 exact ⟨[] :: Fs, .cons n p, by simpa using nd⟩
theorem Own.tail (w : Own H (r :: W)) : Own H W := by
 obtain ⟨Fs, p, nd⟩ := w
 cases p with
 | cons q t =>
  rw [List.flatten_cons] at nd
  exact ⟨_, t, (List.nodup_append.mp nd).2.1⟩
theorem Own.nil (H : Hp) : Own H [] := ⟨[], .nil, by simp⟩
end
def Qcy (C p : Addr) (S : HS) : Rt where
 on H F := ∃ A, HouseAt C H p A S ∧ F = A.foot p
 keep := by
  rintro H H' F ⟨A, h, rfl⟩ k im
  exact ⟨A, h.keep k im.t, rfl⟩
 there := by
  rintro H F ⟨A, h, rfl⟩ b hb
  exact h.there b hb
def rLst (a : Addr) (vs : List V) : Rt where
 on H F := H a = some (.lst vs) ∧ F = [a]
 keep := by
  rintro H H' F ⟨h, rfl⟩ k im
  exact ⟨(k a (by simp)).trans h, rfl⟩
 there := by
  rintro H F ⟨h, rfl⟩ b hb
  obtain rfl : b = a := by simpa using hb
  exact ⟨_, h⟩
def rThs (a : Addr) (ts : List T) : Rt where
 on H F := ThL H ts a ∧ F = [a]
 keep := by
  rintro H H' F ⟨h, rfl⟩ k im
  exact ⟨h.keep im.t (k a (by simp)), rfl⟩
 there := by
  rintro H F ⟨⟨vs, h, _⟩, rfl⟩ b hb
  obtain rfl : b = a := by simpa using hb
  exact ⟨_, h⟩
def QmM (a : Addr) (xss : List (List Int)) : Rt where
 on H F := ∃ al, H a = some (.lst (al.map V.ref)) ∧ Paired (QjK H) xss al ∧ F = a :: al
 keep := by
  rintro H H' F ⟨al, h, p, rfl⟩ k im
  exact ⟨al, (k a (by simp)).trans h, QH (fun x b _ hb z => (k b (by simp [hb])).trans z) p, rfl⟩
 there := by
  rintro H F ⟨al, h, p, rfl⟩ b hb
  rcases List.mem_cons.mp hb with rfl | hb
  ·exact ⟨_, h⟩
  ·obtain ⟨j, hj⟩ := List.getElem?_of_mem hb
   obtain ⟨x, _, z⟩ := QM p hj
   exact ⟨_, z⟩
def Qmd (ak ar : Addr) (bs : List Box) : Rt where
 on H F := ∃ fl, H ak = some (.dK (Qx bs)) ∧ H ar = some (.dK (Qt bs fl)) ∧ Paired (fun b a => ThL H b.row a) bs fl ∧ F = ak :: ar :: fl
 keep := by
  rintro H H' F ⟨fl, h1, h2, p, rfl⟩ k im
  exact ⟨fl, (k ak (by simp)).trans h1, (k ar (by simp)).trans h2, QH (fun x b _ hb z => z.keep im.t (k b (by simp [hb]))) p, rfl⟩
 there := by
  rintro H F ⟨fl, h1, h2, p, rfl⟩ b hb
  have hb : b = ak ∨ b = ar ∨ b ∈ fl := by simpa using hb
  rcases hb with rfl | rfl | hb
  ·exact ⟨_, h1⟩
  ·exact ⟨_, h2⟩
  ·obtain ⟨j, hj⟩ := List.getElem?_of_mem hb
   obtain ⟨x, _, vs, z, _⟩ := QM p hj
   exact ⟨_, z⟩
def Qmb (a : Addr) (vs : List V) : Rt where
 on H F := H a = some (.tup vs) ∧ F = []
 keep := by
  rintro H H' F ⟨h, rfl⟩ k im
  exact ⟨im.t _ _ h, rfl⟩
 there := by
  rintro H F ⟨h, rfl⟩ b hb
  simp at hb
end LW
variable {P : PySem.Program} {w : PySem.World} {K : Fg} {mg : PySem.Str → Option PySem.Value} {base : PySem.Heap} {n : Nat} {f : PySem.Addr} {fd : PySem.FuncData}
theorem zl {k : Nat} (h : Nat.ble k 99 = true := by rfl) : k ≤ PySem.sizeLine := Nat.le_trans (Nat.le_of_ble_eq_true h) (by decide)
namespace LW
open PySem L2
theorem Qmo {c A B : Prop} [Decidable c] (hc : ¬ c) (h : B) : if decide c = true then A else B := by rw [decide_eq_false hc]; exact Qbg h
theorem iteY {c A B : Prop} [Decidable c] (hc : c) (h : A) : if decide c = true then A else B := by rw [decide_eq_true hc]; exact QaK h
theorem iteB {b : Bool} {A B : Prop} (e : b = false) (h : B) : if b = true then A else B := by rw [e]; exact Qbg h
theorem iteA {b : Bool} {A B : Prop} (e : b = true) (h : A) : if b = true then A else B := by rw [e]; exact QaK h
theorem QcH {k : Str} {v : V} {r : List (Str × V)} : List.lookup k ((k, v) :: r) = some v := by simp [List.lookup_cons]
theorem Qy {k k' : Str} {v : V} {r : List (Str × V)} (h : (k == k') = false) : List.lookup k ((k', v) :: r) = List.lookup k r := by simp [List.lookup_cons, h]
section
variable {A : HA} {S : HS}
theorem Qm0 : (QbL A S).lookup ("room" : Str) = some (V.int S.room) := QcH
theorem QcX : (QbL A S).lookup ("slots" : Str) = some (V.ref A.sl) := (Qy (by decide +kernel)).trans QcH
theorem Qm1 : (QbL A S).lookup ("last_name" : Str) = some (V.int S.last) := (Qy (by decide +kernel)).trans ((Qy (by decide +kernel)).trans QcH)
theorem Qb6 : (QbL A S).lookup ("kinds" : Str) = some (V.ref A.kd) := (Qy (by decide +kernel)).trans ((Qy (by decide +kernel)).trans ((Qy (by decide +kernel)).trans QcH))
theorem Qbe : (QbL A S).lookup ("fields" : Str) = some (V.ref A.fd) := (Qy (by decide +kernel)).trans ((Qy (by decide +kernel)).trans ((Qy (by decide +kernel)).trans ((Qy (by decide +kernel)).trans QcH)))
theorem QdY : (QbL A S).lookup ("queues" : Str) = some (V.ref A.qs) := (Qy (by decide +kernel)).trans ((Qy (by decide +kernel)).trans ((Qy (by decide +kernel)).trans ((Qy (by decide +kernel)).trans ((Qy (by decide +kernel)).trans QcH))))
theorem Qg5 : (QbL A S).lookup ("told" : Str) = some (V.ref A.td) := (Qy (by decide +kernel)).trans ((Qy (by decide +kernel)).trans ((Qy (by decide +kernel)).trans ((Qy (by decide +kernel)).trans ((Qy (by decide +kernel)).trans ((Qy (by decide +kernel)).trans QcH)))))
def Qml (m : Str) : Bool := (["room", "slots", "last_name", "kinds", "fields", "queues", "told"] : List Str).all fun x => !(m == x)
theorem Qj {m : Str} (h : Qml m = true := by decide +kernel) : (QbL A S).lookup m = none := by
 simp only [Qml, List.all_cons, List.all_nil, Bool.and_true, Bool.and_eq_true, Bool.not_eq_true'] at h
 obtain ⟨h1, h2, h3, h4, h5, h6, h7⟩ := h
 exact (Qy h1).trans ((Qy h2).trans ((Qy h3).trans ((Qy h4).trans ((Qy h5).trans ((Qy h6).trans ((Qy h7).trans rfl))))))
end
structure HTxt (K : Fg) (mg : Str → Option Value) (C : Addr) : Prop where
 cl : Cls K C
 n_room : NoAttr K C "room"
 n_slots : NoAttr K C "slots"
 n_last : NoAttr K C "last_name"
 n_kinds : NoAttr K C "kinds"
 n_fields : NoAttr K C "fields"
 n_queues : NoAttr K C "queues"
 n_told : NoAttr K C "told"
 g_house : mg "House" = some (.ref C)
 g_len : mg "len" = none
 g_sorted : mg "sorted" = none
 g_range : mg "range" = none
 g_list : mg "list" = none
 g_isi : mg "isinstance" = none
 g_guards : ∃ t, mg "GUARDS" = some (.int 4 t)
def MethOk (P : Program) (w : World) (K : Fg) (mg : Str → Option Value) (base : Heap) (C : Addr) (k : Nat) (m : Str) (ps : List Str) (sp : Sp) (dss : List (List Value)) : Prop :=
 ∃ f fd, Meth K C m f ∧ FnOk P w K mg base CX0 k f fd ps sp ∧ ∀ ds ∈ dss, Binds K fd ps ds
def DefOk (P : Program) (w : World) (K : Fg) (mg : Str → Option Value) (base : Heap) (k : Nat) (x : Str) (ps : List Str) (sp : Sp) (dss : List (List Value)) : Prop :=
 ∃ f fd, mg x = some (.ref f) ∧ PySem.W.keepIn K (.ref f) = true ∧ FnOk P w K mg base CX0 k f fd ps sp ∧ ∀ ds ∈ dss, Binds K fd ps ds
section
variable {C : Addr}
def Qa3 (C : Addr) : Sp := fun vs H Q _ => ∃ p A S i, vs = [.ref p, .int i] ∧ HouseAt C H p A S ∧ 0 ≤ i ∧ i < S.slots.length ∧ Q .non H
end
section
variable {C : Addr} {H : Hp} {p : Addr} {A : HA} {S : HS}
theorem Zi (bs : List Box) : (Qx bs).map (·.1) = (bs.map (·.name)).map fun n => (Sum.inl n : Key) := by
 simp [Qx, List.map_map, Function.comp_def]
theorem QaH {bs : List Box} {fl : List Addr} (h : bs.length = fl.length) : (Qt bs fl).map (·.1) = (bs.map (·.name)).map fun n => (Sum.inl n : Key) := by
 unfold Qt
 rw [List.map_map, List.map_map]
 have : ((fun x : Key × V => x.1) ∘ fun q : Box × Addr => ((Sum.inl q.1.name : Key), V.ref q.2)) = (fun b : Box => (Sum.inl b.name : Key)) ∘ Prod.fst := rfl
 rw [this, ← List.map_map, List.map_fst_zip (by omega)]
 rfl
theorem Qeg {l : List Int} (h : l.Nodup) : (l.map fun n => (Sum.inl n : Key)).Nodup := by
 induction l with
 | nil => exact List.nodup_nil
 | cons a r ih =>
  obtain ⟨h1, h2⟩ := List.nodup_cons.mp h
  rw [List.map_cons]
  refine List.nodup_cons.mpr ⟨fun m => h1 ?_, ih h2⟩
  obtain ⟨b, hb, e⟩ := List.mem_map.mp m
  rw [← Sum.inl.inj e]; exact hb
theorem HouseAt.ndK (h : HouseAt C H p A S) : ((Qx S.boxes).map (·.1)).Nodup := by rw [Zi]; exact Qeg h.nm
theorem HouseAt.ndF (h : HouseAt C H p A S) : ((Qt S.boxes A.fl).map (·.1)).Nodup := by rw [QaH (QG h.fl)]; exact Qeg h.nm
theorem HouseAt.kindAt (h : HouseAt C H p A S) {i : Nat} {b : Box} (e : S.boxes[i]? = some b) : Qa2 (Qx S.boxes) (Sum.inl b.name) = some (.str b.kind) := by
 refine Qd9 h.ndK (i := i) ?_
 simp [Qx, e]
theorem HouseAt.rowAt (h : HouseAt C H p A S) {i : Nat} {b : Box} (e : S.boxes[i]? = some b) : ∃ a ws, A.fl[i]? = some a ∧ H a = some (.lst ws) ∧ Ths H b.row ws ∧ Qa2 (Qt S.boxes A.fl) (Sum.inl b.name) = some (.ref a) := by
 obtain ⟨a, ha, ws, hw, ht⟩ := Zt h.fl e
 refine ⟨a, ws, ha, hw, ht, Qd9 h.ndF (i := i) ?_⟩
 unfold Qt
 rw [List.getElem?_map, List.getElem?_zip_eq_some.mpr (show S.boxes[i]? = some (b, a).1 ∧ A.fl[i]? = some (b, a).2 from ⟨e, ha⟩)]
 rfl
theorem HouseAt.noName (h : HouseAt C H p A S) {n : Int} (e : ¬ n ∈ S.boxes.map (·.name)) : Qa2 (Qx S.boxes) (Sum.inl n) = none := by
 refine QcM ?_
 rw [Zi]
 intro m
 obtain ⟨b, hb, q⟩ := List.mem_map.mp m
 rw [Sum.inl.inj q] at hb
 exact e hb
end
section
variable {C : Addr}
def Qay (C : Addr) : Sp := fun vs H Q _ => ∃ p i, vs = [.ref p, .int i] ∧ 0 ≤ i ∧ i < 4 ∧ Q .non H
def Zl (C : Addr) : Sp := fun vs H Q _ => ∃ p A S n, vs = [.ref p, .int n] ∧ HouseAt C H p A S ∧ n ∈ S.boxes.map (·.name) ∧ Q .non H
def Qbk (C : Addr) : Sp := fun vs H Q _ => ∃ (p : Addr) (A : HA) (S : HS) (i : Nat) (b : Box) (at_ : Int), vs = [.ref p, .int b.name, .int at_] ∧ HouseAt C H p A S ∧ S.boxes[i]? = some b ∧ 0 ≤ at_ ∧ at_ < b.row.length ∧ Q .non H
def Qe7 (C : Addr) : Sp := fun vs H Q _ => ∃ (p : Addr) (A : HA) (S : HS) (n : Int), vs = [.ref p, .int n] ∧ HouseAt C H p A S ∧ Q (.bl (decide ((S.boxes.length : Int) + n ≤ S.room))) H
def QbO (C : Addr) : Sp := fun vs H Q _ => ∃ (p : Addr) (A : HA) (S : HS) (n : Int) (v : V), vs = [.ref p, .int n, v] ∧ HouseAt C H p A S ∧ (S.boxes.length : Int) + n ≤ S.room ∧ Q .non H
def names (S : HS) : List Int := S.boxes.map (·.name)
theorem QcU : ∀ {a b : List Int}, a.Perm b → a.Pairwise (· ≤ ·) → b.Pairwise (· < ·) → a = b
 | [], b, h, _, _ => (List.nil_perm.mp h).symm
 | x :: a, [], h, _, _ => by simpa using h.length_eq
 | x :: a, y :: b, h, h1, h2 => by
  have e : x = y := by
   obtain ⟨p1, _⟩ := List.pairwise_cons.mp h1
   obtain ⟨p2, _⟩ := List.pairwise_cons.mp h2
   have m1 : x ∈ y :: b := h.mem_iff.mp List.mem_cons_self
   have m2 : y ∈ x :: a := h.mem_iff.mpr List.mem_cons_self
   rcases List.mem_cons.mp m1 with q | q
   ·exact q
   ·have l1 := p2 x q
    rcases List.mem_cons.mp m2 with r | r
    ·exact r.symm
    ·have l2 := p1 y r
     omega
  subst e
  rw [QcU ((List.perm_cons x).mp h) (List.pairwise_cons.mp h1).2 (List.pairwise_cons.mp h2).2]
def Qea (C : Addr) : Sp := fun vs H Q _ => ∃ p A S, vs = [.ref p] ∧ HouseAt C H p A S ∧ S.boxes.length < 64 ∧ ∀ l, H l = none → Q (.ref l) (upd H l (.lst ((names S).map V.int)))
def Qe6 (C : Addr) : Sp := fun vs H Q _ => ∃ (p : Addr) (A : HA) (S : HS) (i : Nat) (b : Box), vs = [.ref p, .int b.name] ∧ HouseAt C H p A S ∧ S.boxes[i]? = some b ∧ Q (.str b.kind) H
theorem Qaw {S : HS} {i : Nat} {b : Box} (h : S.boxes[i]? = some b) : b.name ∈ S.boxes.map (·.name) := List.mem_map.mpr ⟨b, List.mem_of_getElem? h, rfl⟩
def Qhl (C : Addr) : Sp := fun vs H Q _ => ∃ (p : Addr) (A : HA) (S : HS) (i : Nat) (b : Box), vs = [.ref p, .int b.name] ∧ HouseAt C H p A S ∧ S.boxes[i]? = some b ∧ Q (.int b.row.length) H
def Qcj (C : Addr) : Sp := fun vs H Q _ => ∃ (p : Addr) (A : HA) (S : HS) (i : Nat) (b : Box) (j : Nat) (t : T), vs = [.ref p, .int b.name, .int j] ∧ HouseAt C H p A S ∧ S.boxes[i]? = some b ∧ b.row[j]? = some t ∧ ∀ v, isT H t v → Q v H
def Qka (C : Addr) : Sp := fun vs H Q _ => ∃ (p : Addr) (A : HA) (S : HS) (j : Nat) (t : T), vs = [.ref p, .int j] ∧ HouseAt C H p A S ∧ S.slots[j]? = some t ∧ ∀ v, isT H t v → Q v H
def Qdu (C : Addr) : Sp := fun vs H Q _ => ∃ (p : Addr) (A : HA) (S : HS) (g : Nat) (ns : List Int), vs = [.ref p, .int g] ∧ HouseAt C H p A S ∧ g < 4 ∧ S.queues[g]? = some ns ∧ ∀ l, H l = none → Q (.ref l) (upd H l (.lst (ns.map V.int)))
end
def ZY (kind : Str) (size : Int) : Int := if kind = "weak" then 1 else if kind = "pair" then 2 else size
def HS.built (S : HS) (kind : Str) (n : Nat) : HS := { S with last := S.last + 1, boxes := S.boxes ++ [(⟨S.last + 1, kind, List.replicate n .non⟩ : Box)] }
theorem QkU (A : HA) (S : HS) (z : Int) : QdH "last_name" (.int z) (QbL A S) = QbL A { S with last := z } := by
 have n1 : ¬ (("room" : Str) = "last_name") := by decide +kernel
 have n2 : ¬ (("slots" : Str) = "last_name") := by decide +kernel
 simp only [QbL, QdH, if_neg n1, if_neg n2, if_pos]
theorem QkB {l : Addr} {a b r : List Addr} (h : (a ++ b ++ r).Nodup) (hl : l ∉ a ++ b ++ r) : (a ++ (b ++ [l]) ++ r).Nodup := by
 have e : a ++ (b ++ [l]) ++ r = (a ++ b) ++ l :: r := by simp
 rw [e, List.perm_middle.nodup_iff]
 exact List.nodup_cons.mpr ⟨hl, h⟩
theorem HouseAt.built {C : Addr} {H H' : Hp} {p : Addr} {A : HA} {S : HS} {l : Addr} {kind : Str} {n : Nat} (h : HouseAt C H p A S) (h1 : H' p = some (.ins C A.dx (QbL A { S with last := S.last + 1 })))
  (h2 : H' A.kd = some (.dK (Qx S.boxes ++ [((Sum.inl (S.last + 1) : Key), V.str kind)]))) (h3 : H' A.fd = some (.dK (Qt S.boxes A.fl ++ [((Sum.inl (S.last + 1) : Key), V.ref l)]))) (h4 : H' l = some (.lst (List.replicate n .non)))
  (hl : l ∉ A.lists) (hk : ∀ b ∈ A.lists, H' b = H b) (ht : Tups H H') : HouseAt C H' p { A with fl := A.fl ++ [l] } (S.built kind n) where
 ob := h1
 sl := h.sl.keep ht (hk _ (by simp [HA.lists]))
 kd := by rw [h2]; simp [Qx, HS.built]
 fd := by
  rw [h3]
  show _ = some (HO.dK (((S.boxes ++ [(⟨S.last + 1, kind, List.replicate n .non⟩ : Box)]).zip (A.fl ++ [l])).map _))
  rw [List.zip_append (QG h.fl)]
  simp [Qt]
 fl := Qbc (QH (fun b a _ ha z => z.keep ht (hk _ (by simp [HA.lists, ha]))) h.fl) (.cons ⟨_, h4, Qko (show isT H' .non .non from rfl) n⟩ .nil)
 qs := (hk _ (by simp [HA.lists])).trans h.qs
 ql := QH (fun b a _ ha z => (hk _ (by simp [HA.lists, ha])).trans z) h.ql
 td := (hk _ (by simp [HA.lists])).trans h.td
 tl := QH (fun b a _ ha z => (hk _ (by simp [HA.lists, ha])).trans z) h.tl
 nd := by
  have e : HA.lists A = [A.sl, A.qs, A.td] ++ A.fl ++ (A.ql ++ A.tl) := by simp [HA.lists]
  have e2 : HA.lists { A with fl := A.fl ++ [l] } = [A.sl, A.qs, A.td] ++ (A.fl ++ [l]) ++ (A.ql ++ A.tl) := by simp [HA.lists]
  have nd := h.nd
  rw [e] at nd hl
  rw [e2]
  exact QkB nd hl
 kf := h.kf
 asc := by
  show ((S.boxes ++ [(⟨S.last + 1, kind, List.replicate n .non⟩ : Box)]).map (·.name)).Pairwise (· < ·)
  rw [List.map_append, List.pairwise_append]
  refine ⟨h.asc, List.pairwise_singleton _ _, fun x hx y hy => ?_⟩
  obtain ⟨b, hb, rfl⟩ := List.mem_map.mp hx
  have hy : y = S.last + 1 := by simpa using hy
  have := h.top b hb
  omega
 top := fun b hb => by
  have hb : b ∈ S.boxes ++ [(⟨S.last + 1, kind, List.replicate n .non⟩ : Box)] := hb
  show b.name ≤ S.last + 1
  rcases List.mem_append.mp hb with q | q
  ·have := h.top b q; omega
  ·have q : b = ⟨S.last + 1, kind, List.replicate n .non⟩ := by simpa using q
   subst q
   exact Int.le_refl _
def QlS : List (Key × V) := [(Sum.inr "weak", .int 1), (Sum.inr "pair", .int 2)]
theorem QkX (kind : Str) (size : Int) : (Qa2 QlS (Sum.inr kind)).getD (.int size) = V.int (ZY kind size) := by
 unfold QlS ZY
 by_cases h1 : kind = "weak"
 ·subst h1
  rw [QcL rfl, if_pos rfl]
  rfl
 ·rw [QcN (fun e => h1 (Sum.inr.inj e).symm), if_neg h1]
  by_cases h2 : kind = "pair"
  ·subst h2
   rw [QcL rfl, if_pos rfl]
   rfl
  ·rw [QcN (fun e => h2 (Sum.inr.inj e).symm), if_neg h2]
   rfl
theorem Qi2 (n : Nat) : (List.replicate n [V.non]).flatten = List.replicate n V.non := by
 induction n with
 | zero => rfl
 | succ n ih => rw [List.replicate_succ, List.flatten_cons, ih, List.replicate_succ]; rfl
section
variable {C : Addr}
def Out (C : Addr) (H : Hp) (p : Addr) (A : HA) (S' : HS) (Q : V → Hp → Prop) (v : V) : Prop := ∀ A' H', HouseAt C H' p A' S' → Frame (A.foot p) H H' → Tups H H' → Grown (A.foot p) (A'.foot p) H → Q v H'
def QcP : Sp := fun vs H Q _ => ∃ n, vs = [.int n] ∧ ∀ a, H a = none → Q (.ref a) (upd H a (.tup [.str "box", .int n]))
theorem HouseAt.setSlot {H : Hp} {p : Addr} {A : HA} {S : HS} {ws : List V} {j : Nat} {t : T} {v : V} (h : HouseAt C H p A S) (hw : H A.sl = some (.lst ws)) (ht : Ths H S.slots ws) (tv : isT H t v) :
  HouseAt C (upd H A.sl (.lst (ws.set j v))) p A { S with slots := S.slots.set j t } := by
 have tu : Tups H (upd H A.sl (.lst (ws.set j v))) := Tups.upd hw (by intro xs z; cases z)
 have nd : A.sl ∉ A.qs :: A.td :: (A.fl ++ (A.ql ++ A.tl)) := (List.nodup_cons.mp h.nd).1
 have ne : ∀ b ∈ A.qs :: A.td :: (A.fl ++ (A.ql ++ A.tl)), b ≠ A.sl := fun b hb e => nd (e ▸ hb)
 refine ⟨?_, ⟨_, Qd, Ths.keep tu (Qkn tv j ht)⟩, ?_, ?_, QH (fun b a _ ha z => z.keep tu (Qh (ne _ (by simp [ha])))) h.fl, ?_, QH (fun b a _ ha z => (Qh (ne _ (by simp [ha]))).trans z) h.ql, ?_,
  QH (fun b a _ ha z => (Qh (ne _ (by simp [ha]))).trans z) h.tl, h.nd, h.kf, h.asc, h.top⟩
 ·rw [Qh (QI h.ob hw (by intro z; cases z))]; exact h.ob
 ·rw [Qh (QI h.kd hw (by intro z; cases z))]; exact h.kd
 ·rw [Qh (QI h.fd hw (by intro z; cases z))]; exact h.fd
 ·rw [Qh (ne _ (by simp))]; exact h.qs
 ·rw [Qh (ne _ (by simp))]; exact h.td
def HS.made (S : HS) (kind : Str) (n slot : Nat) : HS := { S.built kind n with slots := S.slots.set slot (.box (S.last + 1)) }
def Qj6 (C : Addr) : Sp := fun vs H Q _ => ∃ (p : Addr) (A : HA) (S : HS) (kind : Str) (size : Int) (slot : Nat), vs = [.ref p, .str kind, .int size, .int slot] ∧ HouseAt C H p A S ∧ 0 ≤ ZY kind size ∧ ZY kind size ≤ 1000 ∧ S.boxes.length ≤ 1000 ∧ (S.boxes.length : Int) < S.room ∧
 slot < S.slots.length ∧ Out C H p A (S.made kind (ZY kind size).toNat slot) Q (.int (S.last + 1))
def QiM (C : Addr) : Sp := fun vs H Q _ => ∃ (p : Addr) (A : HA) (S : HS) (kind : Str) (n slot : Nat) (ad at_ al : Addr), vs = [.ref p, .ref ad, .int slot] ∧ HouseAt C H p A S ∧ H ad = some (.lst [.ref at_]) ∧ H at_ = some (.tup [.str kind, .ref al]) ∧
 H al = some (.lst (List.replicate n .non)) ∧ n ≤ 1000 ∧ S.boxes.length ≤ 1000 ∧ (S.boxes.length : Int) < S.room ∧ slot < S.slots.length ∧ Out C H p A (S.made kind n slot) Q (.int (S.last + 1))
theorem Qis {n j : Nat} (h : j < n) : ixN n (j : Int) = some j := by
 unfold ixN
 rw [if_pos (by omega), if_pos (by omega)]
 simp
end
def QeB (l : List Stmt) (i : Nat) : Stmt := l.getD i (.Pass ⟨0, 0, 0, 0⟩)
def QaJ : Stmt → Expr
 | .Assign _ v _ => v
 | _ => .Constant .none 0 ⟨0, 0, 0, 0⟩
def Qhw : Stmt → Expr
 | .Return (some v) _ => v
 | _ => .Constant .none 0 ⟨0, 0, 0, 0⟩
def Qiy (i : Nat) : Expr → Expr
 | .Call _ args _ _ => args.getD i (.Constant .none 0 ⟨0, 0, 0, 0⟩)
 | _ => .Constant .none 0 ⟨0, 0, 0, 0⟩
def Qiu : Stmt → List Stmt
 | .For _ _ b _ _ => b
 | _ => []
def QD : Expr → Scope
 | .ListComp _ _ sc _ => sc
 | _ => { kind := .function, names := [], isGenerator := false, isCoroutine := false }
theorem comp4 {σ : St} {H : Hp} {Q : VK} (k : ∀ (as : List Addr) (H' : Hp), as.length = 4 → as.Nodup → (∀ a ∈ as, H a = none ∧ H' a = some (.lst [])) → Same H H' → ∀ p, H' p = none → Q (.ref p) (upd H' p (.lst (as.map V.ref)))) :
  QmE (iRng1 (QmD (tC (.int 4)) Qnc)) [] Qc0 (tLst Qnc) σ H Q := by
 refine ⟨4, rfl, by decide, by decide, Qaq (lo := 0) (n := 4) (fun i ys H' => ∃ as : List Addr, ys = as.map V.ref ∧ as.length = i ∧ as.Nodup ∧ (∀ a ∈ as, H a = none ∧ H' a = some (.lst [])) ∧ Same H H')
  ⟨[], rfl, rfl, List.nodup_nil, by simp, Same.refl _⟩ ?_ (by decide) ?_ ?_⟩
 ·rintro i ys H' ⟨as, rfl, hl, _⟩
  rw [List.length_map]; omega
 ·rintro i ys H' hi ⟨as, rfl, hl, nd, ha, hs⟩
  dsimp only [Qc0]
  refine QaK ⟨by decide, fun p hp => ⟨as ++ [p], by simp, by simp [hl], ?_, fun a ha' => ?_, fun b o q => ?_⟩⟩
  ·refine QcF nd fun m => ?_
   rw [(ha p m).2] at hp; cases hp
  ·rcases List.mem_append.mp ha' with q | q
   ·exact ⟨(ha a q).1, by rw [Qh (Qf (ha a q).2 hp)]; exact (ha a q).2⟩
   ·have q : a = p := by simpa using q
    subst q
    exact ⟨hs.free hp, Qd⟩
  ·rw [Qh (Qf (hs b o q) hp)]
   exact hs b o q
 ·rintro ys H' ⟨as, rfl, hl, nd, ha, hs⟩ p hp
  exact k as H' hl nd ha hs p hp
def HS.empty (room : Int) (n : Nat) : HS := ⟨room, List.replicate n .non, 0, [], [[], [], [], []], [[], [], [], []]⟩
theorem QkR (room : Int) (sl kd fd qs td : Addr) : QdH "told" (V.ref td) (QdH "queues" (V.ref qs) (QdH "fields" (V.ref fd) (QdH "kinds" (V.ref kd) (QdH "last_name" (V.int 0) (QdH "slots" (V.ref sl) (QdH "room" (V.int room) [])))))) =
  ([("room", .int room), ("slots", .ref sl), ("last_name", .int 0), ("kinds", .ref kd), ("fields", .ref fd), ("queues", .ref qs), ("told", .ref td)] : List (Str × V)) := by kernel_rfl
theorem Qku {α β : Type} {F : α → β → Prop} {x : α} {l : List β} (hl : l.length = 4) (h : ∀ y ∈ l, F x y) : Paired F [x, x, x, x] l := by
 match l, hl, h with
 | [a, b, c, d], _, h => exact .cons (h a (by simp)) (.cons (h b (by simp)) (.cons (h c (by simp)) (.cons (h d (by simp)) .nil)))
theorem Qb5 {p b : Addr} {H : Hp} {o u : HO} (h : H b = some u) (n : b ≠ p) : upd H p o b = some u := by rw [Qh n]; exact h
theorem Zk {a b : Addr} {H : Hp} {o u : HO} (h : H b = some u) (n : H a = none) : upd H a o b = some u := by rw [Qh (Qf h n)]; exact h
theorem QaQ {a b : Addr} {H : Hp} {o : HO} (h : upd H a o b = none) : H b = none := by
 have : b ≠ a := fun e => by subst e; rw [Qd] at h; cases h
 rw [Qh this] at h
 exact h
section
variable {C : Addr}
def Ql7 (C : Addr) : Sp := fun vs H Q _ => ∃ (p dx : Addr) (room n : Int), vs = [.ref p, .int room, .int n] ∧ H p = some (.ins C dx []) ∧ 0 ≤ n ∧ n ≤ 1000 ∧
 ∀ A' H', HouseAt C H' p A' (HS.empty room n.toNat) → Frame [p] H H' → Tups H H' → Grown [p] (A'.foot p) H → Q .non H'
end
def Scr (K : Fg) (H : Hp) (a : Addr) (ns : List Int) : Prop :=
 (∃ o, H a = some (.frz o (.lst (ns.map V.int)))) ∨
  ∃ (o : Obj) (its : Array Value) (n : Nat), K.lookup a = some o ∧ o.cls = .type "list" ∧ o.dict = none ∧ o.data = .seq its n ∧ its.size ≤ sizeLine ∧ Vals (ns.map V.int) its.toList
theorem Scr.sq {K : Fg} {H : Hp} {a : Addr} {ns : List Int} (h : Scr K H a ns) : SqL K H a (ns.map V.int) := by
 rcases h with ⟨o, h⟩ | h
 ·exact .inl (.inr ⟨o, h⟩)
 ·exact .inr h
theorem Scr.of {K : Fg} {H : Hp} {a : Addr} {ns : List Int} (hO : Only H) (h : SqL K H a (ns.map V.int)) : Scr K H a ns := by
 rcases h with (h | ⟨o, h⟩) | h
 ·rcases hO a with z | ⟨o, xs, z⟩
  ·rw [h] at z; cases z
  ·rw [h] at z; cases z
 ·exact .inl ⟨o, h⟩
 ·exact .inr h
def Frz (H H' : Hp) : Prop := ∀ b o u, H b = some (.frz o u) → H' b = some (.frz o u)
theorem Frz.of_same {H H' : Hp} (s : Same H H') : Frz H H' := fun b _ _ h => s b _ h
theorem Scr.keep {K : Fg} {H H' : Hp} {a : Addr} {ns : List Int} (f : Frz H H') (h : Scr K H a ns) : Scr K H' a ns := by
 rcases h with ⟨o, h⟩ | h
 ·exact .inl ⟨o, f _ _ _ h⟩
 ·exact .inr h
theorem HouseAt.frz {C : Addr} {H H' : Hp} {p : Addr} {A : HA} {S : HS} (h : HouseAt C H p A S) (f : Frame (A.foot p) H H') : Frz H H' := fun b o u q => f b _ q fun m => by
 have m : b = p ∨ b = A.kd ∨ b = A.fd ∨ b ∈ A.lists := by simpa [HA.foot] using m
 rcases m with e | e | e | e
 ·subst e; rw [h.ob] at q; cases q
 ·subst e; rw [h.kd] at q; cases q
 ·subst e; rw [h.fd] at q; cases q
 ·obtain ⟨vs, z⟩ := h.isL b e
  rw [z] at q; cases q
structure LTxt (K : Fg) (mg : Str → Option Value) : Prop where
 g_len : mg "len" = none
 g_range : mg "range" = none
 g_list : mg "list" = none
 g_isi : mg "isinstance" = none
 g_int : mg "int" = none
 g_bool : mg "bool" = none
 g_tuple : mg "tuple" = none
 g_str : mg "str" = none
 g_sorted : mg "sorted" = none
 g_enumerate : mg "enumerate" = none
 s_ib : PySem.W.subIn K (.type "int") (.type "bool") = some false
 s_it : PySem.W.subIn K (.type "int") (.type "tuple") = some false
theorem QcV (K : Fg) (n : String) : PySem.W.kitOne K (.type n) (.type n) = some true := by
 unfold PySem.W.kitOne
 rw [if_pos (by simp)]
theorem Qg1 {K : Fg} {t : Value} {n : String} {b : Bool} (h : (t == Value.type n) = false) (m : PySem.W.kitMeta n = true) (s : PySem.W.subIn K t (.type n) = some b) : PySem.W.kitOne K t (.type n) = some b := by
 unfold PySem.W.kitOne PySem.W.kitCls
 rw [if_neg (by rw [h]; exact Bool.false_ne_true)]
 show (if PySem.W.kitMeta n = true then PySem.W.subIn K t (.type n) else none) = some b
 rw [if_pos m]
 exact s
def QgC : Sp := fun vs H Q _ => ∃ i : Int, vs = [.int i] ∧ Q (.bl true) H
def QgE (K : Fg) : Sp := fun vs H Q _ => ∃ (a b : Addr) (ns : List Int), vs = [.ref a, .ref b] ∧ H a = some (.lst (ns.map V.int)) ∧ SqL K H b (ns.map V.int) ∧ ns.length ≤ 1000 ∧ Q (.bl true) H
def Ql5 : Sp := fun vs H Q _ => ∃ (v u : V) (t : T), vs = [v, u] ∧ isT H t v ∧ isT H t u ∧ Q (.bl true) H
structure TX (K : Fg) (mg : Str → Option Value) (C : Addr) : Prop extends HTxt K mg C, LTxt K mg
def MakeOk (P : Program) (w : World) (K : Fg) (mg : Str → Option Value) (base : Heap) (C : Addr) (k : Nat) (ps : List Str) (sp : Sp) (dss : List (List Value)) : Prop :=
 ∃ f fd j, j + 1 ≤ k ∧ Mk K C f ∧ FnOk P w K mg base CX0 j f fd ps sp ∧ ∀ ds ∈ dss, Binds K fd ps ds
section
variable {C : Addr} {j k : Nat} {m x : Str} {ps : List Str} {sp : Sp} {dss : List (List Value)}
theorem MethOk.mono (h : MethOk P w K mg base C j m ps sp dss) (e : j ≤ k) : MethOk P w K mg base C k m ps sp dss := let ⟨f, fd, a, b, c⟩ := h; ⟨f, fd, a, b.mono e, c⟩
theorem DefOk.mono (h : DefOk P w K mg base j x ps sp dss) (e : j ≤ k) : DefOk P w K mg base k x ps sp dss := let ⟨f, fd, a, a', b, c⟩ := h; ⟨f, fd, a, a', b.mono e, c⟩
theorem MakeOk.mono (h : MakeOk P w K mg base C j ps sp dss) (e : j ≤ k) : MakeOk P w K mg base C k ps sp dss := let ⟨f, fd, i, hi, a, b, c⟩ := h; ⟨f, fd, i, Nat.le_trans hi e, a, b, c⟩
end
section
variable {C p : Addr} {H H' : Hp} {A A' : HA} {S S' : HS} {W : List Rt} {i : Nat}
theorem HA.footNd (h : HouseAt C H p A S) : (A.foot p).Nodup := by
 have n1 : ∀ b ∈ A.lists, b ≠ p := fun b hb e => by
  obtain ⟨vs, z⟩ := h.isL b hb
  rw [e, h.ob] at z; cases z
 have n2 : ∀ b ∈ A.lists, b ≠ A.kd := fun b hb e => by
  obtain ⟨vs, z⟩ := h.isL b hb
  rw [e, h.kd] at z; cases z
 have n3 : ∀ b ∈ A.lists, b ≠ A.fd := fun b hb e => by
  obtain ⟨vs, z⟩ := h.isL b hb
  rw [e, h.fd] at z; cases z
 have e1 : p ≠ A.kd := QI h.ob h.kd (by intro z; cases z)
 have e2 : p ≠ A.fd := QI h.ob h.fd (by intro z; cases z)
 show (p :: A.kd :: A.fd :: A.lists).Nodup
 refine List.nodup_cons.mpr ⟨fun m => ?_, List.nodup_cons.mpr ⟨fun m => ?_, List.nodup_cons.mpr ⟨fun m => n3 _ m rfl, h.nd⟩⟩⟩
 ·rcases List.mem_cons.mp m with q | m
  ·exact e1 q
  ·rcases List.mem_cons.mp m with q | m
   ·exact e2 q
   ·exact n1 _ m rfl
 ·rcases List.mem_cons.mp m with q | m
  ·exact h.kf q
  ·exact n2 _ m rfl
theorem Own.house (w : Own H W) (h : W[i]? = some (Qcy C p S)) : ∃ A, HouseAt C H p A S := by
 obtain ⟨F, A, q, _⟩ := w.get h
 exact ⟨A, q⟩
theorem Own.houseNew (w : Own H W) (hh : HouseAt C H' p A S) (fr : Frame [] H H') (n : ∀ b ∈ A.foot p, H b = none) : Own H' (Qcy C p S :: W) := by
 obtain ⟨Fs, pr, nd⟩ := w
 have im : Same H H' := fun b o q => fr b o q (by simp)
 have out : ∀ b ∈ A.foot p, b ∉ Fs.flatten := fun b hb z => by
  obtain ⟨F, hF, hb2⟩ := List.mem_flatten.mp z
  obtain ⟨j, hj⟩ := List.getElem?_of_mem hF
  obtain ⟨r, _, q⟩ := QM pr hj
  obtain ⟨o, e⟩ := r.there q b hb2
  rw [n b hb] at e; cases e
 refine ⟨A.foot p :: Fs, .cons ⟨A, hh, rfl⟩ (QH (fun r F _ _ z => r.keep z (fun b hb => ?_) (Imm.same im)) pr), ?_⟩
 ·obtain ⟨o, e⟩ := r.there z b hb
  rw [e]; exact im _ _ e
 ·rw [List.flatten_cons]
  exact List.nodup_append.mpr ⟨HA.footNd hh, nd, fun x hx y hy e => out x hx (e ▸ hy)⟩
end
def ZH (bs : List Box) (i at_ : Nat) (t : T) : List Box := bs.modify i fun b => { b with row := b.row.set at_ t }
def HS.put (S : HS) (i at_ : Nat) (t : T) : HS := { S with boxes := ZH S.boxes i at_ t }
theorem Qdg (bs : List Box) (i at_ : Nat) (t : T) : (ZH bs i at_ t).map (·.name) = bs.map (·.name) := by
 unfold ZH
 refine List.ext_getElem? fun j => ?_
 rw [List.getElem?_map, List.getElem?_map, List.getElem?_modify]
 by_cases e : i = j
 ·simp only [e, if_true]
  cases bs[j]? <;> rfl
 ·simp only [e, if_false]
  cases bs[j]? <;> rfl
theorem Ql0 : Vals [V.non] [Value.none] := .cons rfl .nil
theorem vals_1 (i : Int) (t : Tok) : Vals [V.int i] [Value.int i t] := .cons ⟨t, rfl⟩ .nil
theorem sub_nt (K : Fg) : PySem.W.kitOne K (.type "NoneType") (.type "tuple") = some false := Qg1 (by decide +kernel) (by decide +kernel) (by rfl)
theorem sub_it (K : Fg) : PySem.W.kitOne K (.type "int") (.type "tuple") = some false := Qg1 (by decide +kernel) (by decide +kernel) (by rfl)
def T.nm : T → V
 | .box n => .int n
 | _ => .non
def T.In (t : T) (ns : List Int) : Prop := ∀ n, t = .box n → n ∈ ns
section
variable {C : Addr}
def Zv : Sp := fun vs H Q _ => ∃ (v : V) (t : T), vs = [v] ∧ isT H t v ∧ Q t.nm H
def Qhm : Sp := fun vs H Q _ => ∃ (v : V) (t : T) (a : Addr) (ns : List Int), vs = [v, .ref a] ∧ isT H t v ∧ H a = some (.lst (ns.map V.int)) ∧
 match t with
 | .box n => ∃ (j : Nat) (m : Int), n = (j : Int) ∧ ns[j]? = some m ∧ ∀ x, H x = none → Q (.ref x) (upd H x (.tup [.str "box", .int m]))
 | _ => Q v H
def Qbj (C : Addr) : Sp := fun vs H Q _ => ∃ (p : Addr) (A : HA) (S : HS) (v : V) (t : T), vs = [.ref p, v] ∧ HouseAt C H p A S ∧ isT H t v ∧ t.In (names S) ∧ Q .non H
theorem QhC {α : Type} {l : List α} {i : Nat} {x : α} (f : α → α) (h : l[i]? = some x) : l.modify i f = l.set i (f x) := by
 refine List.ext_getElem? fun j => ?_
 rw [List.getElem?_modify, List.getElem?_set]
 have hl := (List.getElem?_eq_some_iff.mp h).1
 by_cases e : i = j
 ·subst e; rw [h]; simp [hl]
 ·simp [e]
theorem Qg2 (bs : List Box) (i at_ : Nat) (t : T) : Qx (ZH bs i at_ t) = Qx bs := by
 unfold Qx ZH
 refine List.ext_getElem? fun j => ?_
 rw [List.getElem?_map, List.getElem?_map, List.getElem?_modify]
 by_cases e : i = j
 ·simp only [e, if_true]; cases bs[j]? <;> rfl
 ·simp only [e, if_false]; cases bs[j]? <;> rfl
theorem Qg6 {bs bs' : List Box} (h : bs'.map (·.name) = bs.map (·.name)) (fl : List Addr) : Qt bs' fl = Qt bs fl := by
 unfold Qt
 have e : ∀ l : List Box, (l.zip fl).map (fun q => ((Sum.inl q.1.name : Key), V.ref q.2)) = (((l.map (·.name)).zip fl).map fun q => ((Sum.inl q.1 : Key), V.ref q.2)) := fun l => by
  rw [List.zip_map_left, List.map_map]; rfl
 rw [e, e, h]
theorem QbK {α : Type} : ∀ {l : List α} {i j : Nat} {x : α}, l.Nodup → l[i]? = some x → l[j]? = some x → i = j
 | [], _, _, _, _, h, _ => by simp at h
 | y :: l, 0, 0, _, _, _, _ => rfl
 | y :: l, 0, j + 1, x, nd, h1, h2 => by
  have e : y = x := by simpa using h1
  exact absurd (List.mem_of_getElem? (show l[j]? = some x by simpa using h2)) (e ▸ (List.nodup_cons.mp nd).1)
 | y :: l, i + 1, 0, x, nd, h1, h2 => by
  have e : y = x := by simpa using h2
  exact absurd (List.mem_of_getElem? (show l[i]? = some x by simpa using h1)) (e ▸ (List.nodup_cons.mp nd).1)
 | y :: l, i + 1, j + 1, x, nd, h1, h2 => by
  exact congrArg (· + 1) (QbK (i := i) (j := j) (x := x) (List.nodup_cons.mp nd).2 (by simpa using h1) (by simpa using h2))
theorem Qlt {H H' : Hp} {bs : List Box} {fl : List Addr} {i at_ : Nat} {b : Box} {a : Addr} {ws : List V} {t : T} {v : V} (p : Paired (fun b a => ThL H b.row a) bs fl) (nd : fl.Nodup) (hb : bs[i]? = some b) (ha : fl[i]? = some a)
  (ht : Ths H b.row ws) (tv : isT H t v) (tu : Tups H H') (h1 : H' a = some (.lst (ws.set at_ v))) (h2 : ∀ c ∈ fl, c ≠ a → H' c = H c) : Paired (fun b a => ThL H' b.row a) (ZH bs i at_ t) fl := by
 unfold ZH
 rw [QhC _ hb]
 have e : fl = fl.set i a := by
  refine List.ext_getElem? fun j => ?_
  rw [List.getElem?_set]
  by_cases q : i = j
  ·subst q; rw [ha]; simp [(List.getElem?_eq_some_iff.mp ha).1]
  ·simp [q]
 rw [e]
 refine Qed p ⟨_, h1, Ths.keep tu (Qkn tv at_ ht)⟩ fun j x c hj hx hc z => z.keep tu (h2 c (List.mem_of_getElem? hc) fun q => ?_)
 subst q
 exact hj (QbK nd hc ha)
theorem HouseAt.flNd {H : Hp} {p : Addr} {A : HA} {S : HS} (h : HouseAt C H p A S) : A.fl.Nodup := by
 have n := h.nd
 unfold HA.lists at n
 have n3 := (List.nodup_cons.mp (List.nodup_cons.mp (List.nodup_cons.mp n).2).2).2
 exact (List.nodup_append.mp n3).1
theorem HouseAt.setField {H : Hp} {p : Addr} {A : HA} {S : HS} {i at_ : Nat} {b : Box} {a : Addr} {ws : List V} {t : T} {v : V} (h : HouseAt C H p A S) (hb : S.boxes[i]? = some b) (ha : A.fl[i]? = some a) (hw : H a = some (.lst ws)) (ht : Ths H b.row ws) (tv : isT H t v) :
  HouseAt C (upd H a (.lst (ws.set at_ v))) p A (S.put i at_ t) := by
 have tu : Tups H (upd H a (.lst (ws.set at_ v))) := Tups.upd hw (by intro xs z; cases z)
 have ham := List.mem_of_getElem? ha
 have nd := h.nd
 unfold HA.lists at nd
 obtain ⟨n1, nd⟩ := List.nodup_cons.mp nd
 obtain ⟨n2, nd⟩ := List.nodup_cons.mp nd
 obtain ⟨n3, nd⟩ := List.nodup_cons.mp nd
 obtain ⟨n4, n5, n6⟩ := List.nodup_append.mp nd
 have e1 : A.sl ≠ a := fun e => n1 (by rw [e]; simp [ham])
 have e2 : A.qs ≠ a := fun e => n2 (by rw [e]; simp [ham])
 have e3 : A.td ≠ a := fun e => n3 (by rw [e]; simp [ham])
 have e4 : ∀ c ∈ A.ql, c ≠ a := fun c hc e => n6 a ham c (by simp [hc]) e.symm
 have e5 : ∀ c ∈ A.tl, c ≠ a := fun c hc e => n6 a ham c (by simp [hc]) e.symm
 refine ⟨?_, h.sl.keep tu (Qh e1), ?_, ?_, Qlt h.fl h.flNd hb ha ht tv tu Qd (fun c _ n => Qh n), ?_, QH (fun b a _ ha z => (Qh (e4 _ ha)).trans z) h.ql, ?_, QH (fun b a _ ha z => (Qh (e5 _ ha)).trans z) h.tl, h.nd, h.kf, ?_, ?_⟩
 ·rw [Qh (QI h.ob hw (by intro z; cases z))]; exact h.ob
 ·rw [Qh (QI h.kd hw (by intro z; cases z))]; show _ = some (HO.dK (Qx (ZH _ _ _ _))); rw [Qg2]; exact h.kd
 ·rw [Qh (QI h.fd hw (by intro z; cases z))]; show _ = some (HO.dK (Qt (ZH _ _ _ _) _)); rw [Qg6 (Qdg _ _ _ _)]; exact h.fd
 ·rw [Qh e2]; exact h.qs
 ·rw [Qh e3]; exact h.td
 ·show ((ZH _ _ _ _).map (·.name)).Pairwise (· < ·); rw [Qdg]; exact h.asc
 ·intro x hx
  have hx : x.name ∈ (ZH S.boxes i at_ t).map (·.name) := List.mem_map.mpr ⟨x, hx, rfl⟩
  rw [Qdg] at hx
  obtain ⟨y, hy, e⟩ := List.mem_map.mp hx
  rw [← e]; exact h.top y hy
theorem HouseAt.outOne {H : Hp} {p a : Addr} {A : HA} {S S' : HS} {vs : List V} {o : HO} {Q : V → Hp → Prop} {v : V} (h : HouseAt C H p A S) (hm : a ∈ A.lists) (hw : H a = some (.lst vs)) (h' : HouseAt C (upd H a o) p A S') (k : Out C H p A S' Q v) : Q v (upd H a o) :=
 k A _ h' (fun b o q nb => by rw [Qh (fun e => nb (by rw [e]; simp [HA.foot, hm]))]; exact q) (Tups.upd hw (by intro xs z; cases z)) (Grown.refl _ _)
def Qlq (C : Addr) : Sp := fun vs H Q _ => ∃ (p : Addr) (A : HA) (S : HS) (i : Nat) (b : Box) (at_ : Nat) (v : V) (t : T), vs = [.ref p, .int b.name, .int at_, v] ∧ HouseAt C H p A S ∧ S.boxes[i]? = some b ∧ at_ < b.row.length ∧ isT H t v ∧ t.In (names S) ∧ Out C H p A (S.put i at_ t) Q .non
def HS.hold (S : HS) (j : Nat) (t : T) : HS := { S with slots := S.slots.set j t }
def Ql8 (C : Addr) : Sp := fun vs H Q _ => ∃ (p : Addr) (A : HA) (S : HS) (j : Nat) (v : V) (t : T), vs = [.ref p, .int j, v] ∧ HouseAt C H p A S ∧ j < S.slots.length ∧ isT H t v ∧ t.In (names S) ∧ Out C H p A (S.hold j t) Q .non
end
def cellOf (ns : List Int) (k : Int) : Int := ns.getD k.toNat 0
def drw (ns : List Int) (k : Int) : Int := (cellOf ns (k % 61) + 7919 * k) * 48271 % 2147483647
theorem drw_nn (ns : List Int) (k : Int) : 0 ≤ drw ns k := Int.emod_nonneg _ (by decide)
def TOk (many : Int) : T → Prop
 | .non => True
 | .num i => -(10 ^ 40) < i ∧ i < 10 ^ 40
 | .box n => 1 ≤ n ∧ n ≤ many
structure BOk (many : Int) (b : Box) : Prop where
 kd : b.kind = "plain" ∨ b.kind = "weak" ∨ b.kind = "pair"
 sz : ZY b.kind b.row.length = b.row.length
 le : b.row.length ≤ 8
 ts : ∀ t ∈ b.row, TOk many t
def RecNew (H0 H : Hp) (ak ar : Addr) (bs : List Box) : Prop := ∃ fl, H ak = some (.dK (Qx bs)) ∧ H ar = some (.dK (Qt bs fl)) ∧ Paired (fun b a => ThL H b.row a) bs fl ∧ (ak :: ar :: fl).Nodup ∧ ∀ b ∈ ak :: ar :: fl, H0 b = none
theorem Own.add {H H' : Hp} {W : List Rt} {r : Rt} {F : List Addr} (w : Own H W) (s : Same H H') (h : r.on H' F) (nd : F.Nodup) (n : ∀ b ∈ F, H b = none) : Own H' (r :: W) := by
 obtain ⟨Fs, p, nd'⟩ := w
 refine ⟨F :: Fs, .cons h (QH (fun r F _ _ z => r.keep z (fun b hb => ?_) (Imm.same s)) p), ?_⟩
 ·obtain ⟨o, e⟩ := r.there z b hb
  rw [e]; exact s _ _ e
 ·rw [List.flatten_cons]
  refine List.nodup_append.mpr ⟨nd, nd', fun x hx y hy e => ?_⟩
  subst e
  obtain ⟨G, hG, hx2⟩ := List.mem_flatten.mp hy
  obtain ⟨j, hj⟩ := List.getElem?_of_mem hG
  obtain ⟨r2, _, q⟩ := QM p hj
  obtain ⟨o, e⟩ := r2.there q x hx2
  rw [n x hx] at e; cases e
theorem RecNew.on {H0 H : Hp} {ak ar : Addr} {bs : List Box} (h : RecNew H0 H ak ar bs) : ∃ F, (Qmd ak ar bs).on H F ∧ F.Nodup ∧ ∀ b ∈ F, H0 b = none := let ⟨fl, a, b, c, d, e⟩ := h; ⟨_, ⟨fl, a, b, c, rfl⟩, d, e⟩
theorem ThL.same {H H' : Hp} {ts : List T} {a : Addr} (s : Same H H') (h : ThL H ts a) : ThL H' ts a := let ⟨vs, h1, h2⟩ := h; ⟨vs, s _ _ h1, h2.keep (Tups.of_same s)⟩
theorem RecNew.same {H0 H H' : Hp} {ak ar : Addr} {bs : List Box} (s : Same H H') (h : RecNew H0 H ak ar bs) : RecNew H0 H' ak ar bs := let ⟨fl, a, b, c, d, e⟩ := h; ⟨fl, s _ _ a, s _ _ b, QH (fun _ _ _ _ z => z.same s) c, d, e⟩
theorem Qiq (bs : List Box) (b : Box) : Qx (bs ++ [b]) = Qx bs ++ [((Sum.inl b.name : Key), V.str b.kind)] := by simp [Qx]
theorem QhM {bs : List Box} {fl : List Addr} (h : bs.length = fl.length) (b : Box) (a : Addr) : Qt (bs ++ [b]) (fl ++ [a]) = Qt bs fl ++ [((Sum.inl b.name : Key), V.ref a)] := by
 unfold Qt
 rw [List.zip_append h, List.map_append]
 rfl
theorem keyOut {bs : List Box} {n : Int} (h : n ∉ bs.map (·.name)) : Qa2 (Qx bs) (Sum.inl n) = none := by
 refine QcM ?_
 rw [Zi]
 intro m
 obtain ⟨b, hb, q⟩ := List.mem_map.mp m
 rw [Sum.inl.inj q] at hb
 exact h hb
theorem QmX {bs : List Box} {fl : List Addr} {n : Int} (hl : bs.length = fl.length) (h : n ∉ bs.map (·.name)) : Qa2 (Qt bs fl) (Sum.inl n) = none := by
 refine QcM ?_
 rw [QaH hl]
 intro m
 obtain ⟨b, hb, q⟩ := List.mem_map.mp m
 rw [Sum.inl.inj q] at hb
 exact h hb
theorem Qdr (lo : Int) (n : Nat) : QK lo (n + 1) = QK lo n ++ [lo + n] := by
 unfold QK
 rw [List.range_succ, List.map_append]
 rfl
theorem ZG {lo : Int} {n : Nat} {x : Int} : x ∈ QK lo n ↔ lo ≤ x ∧ x < lo + n := by
 unfold QK
 rw [List.mem_map]
 constructor
 ·rintro ⟨k, hk, rfl⟩
  have := List.mem_range.mp hk
  omega
 ·rintro ⟨h1, h2⟩
  exact ⟨(x - lo).toNat, List.mem_range.mpr (by omega), by omega⟩
theorem Qmk {many : Int} (i : Int) (h1 : 0 ≤ i) (h2 : i < 100) : TOk many (.num i) := by
 have h3 : (100 : Int) < 10 ^ 40 := by decide
 exact ⟨by omega, by omega⟩
theorem ZO {n : Nat} (h : n ≤ 1000) : n ≤ sizeLine := Nat.le_of_lt (QO h)
section
variable {C : Addr}
def QgF (K : Fg) : Sp := fun vs H Q _ => ∃ (a : Addr) (ns : List Int) (k : Int), vs = [.ref a, .int k] ∧ Scr K H a ns ∧ 0 ≤ k ∧ Q (.int (cellOf ns k)) H
def Qdf (K : Fg) : Sp := fun vs H Q _ => ∃ (a : Addr) (ns : List Int) (k : Int), vs = [.ref a, .int k] ∧ Scr K H a ns ∧ Q (.int (drw ns k)) H
def Qj5 (K : Fg) : Sp := fun vs H Q _ => ∃ (a : Addr) (ns : List Int), vs = [.ref a] ∧ Scr K H a ns ∧ ∀ m : Int, 1 ≤ m → m ≤ 40 → Q (.int m) H
def QiF (K : Fg) : Sp := fun vs H Q _ => ∃ (a : Addr) (ns : List Int) (k : Int), vs = [.ref a, .int k] ∧ Scr K H a ns ∧ ∀ i : Int, -(10 ^ 40) < i → i < 10 ^ 40 → Q (.int i) H
theorem p40 : (0 : Int) < 10 ^ 40 := by decide
def QjZ (K : Fg) : Sp := fun vs H Q _ => ∃ (a : Addr) (ns : List Int) (k many : Int), vs = [.ref a, .int k, .int many] ∧ Scr K H a ns ∧ 1 ≤ many ∧ ∀ t v H', Same H H' → isT H' t v → TOk many t → Q v H'
def Qj1 (K : Fg) : Sp := fun vs H Q _ => ∃ (a : Addr) (ns : List Int) (count many : Int), vs = [.ref a, .int count, .int many] ∧ Scr K H a ns ∧ 0 ≤ count ∧ count ≤ 1000 ∧ 1 ≤ many ∧
 ∀ l ts H', Same H H' → H l = none → ThL H' ts l → (ts.length : Int) = count → (∀ t ∈ ts, TOk many t) → Q (.ref l) H'
end
theorem QmI : ¬ (("plain" : Str) = "weak") := by decide +kernel
theorem QmH : ¬ (("plain" : Str) = "pair") := by decide +kernel
theorem QmG : ¬ (("pair" : Str) = "weak") := by decide +kernel
theorem Qgj (n : Int) : ZY "plain" n = n := by unfold ZY; rw [if_neg QmI, if_neg QmH]
theorem Qke (n : Int) : ZY "weak" n = 1 := by unfold ZY; rw [if_pos rfl]
theorem Qkf (n : Int) : ZY "pair" n = 2 := by unfold ZY; rw [if_neg QmG, if_pos rfl]
theorem menu4 (c : Int) : ∃ (kd : Str) (sz : Int), atI [V.str "plain", V.str "weak", V.str "pair", V.str "plain"] (c % 4) = some (V.str kd) ∧ atI [V.int (c / 4 % 9), V.int 1, V.int 2, V.int (c / 4 % 3)] (c % 4) = some (V.int sz) ∧
  (kd = "plain" ∨ kd = "weak" ∨ kd = "pair") ∧ 0 ≤ sz ∧ sz ≤ 8 ∧ ZY kd sz = sz := by
 have h1 := Int.emod_nonneg (c / 4) (show (9 : Int) ≠ 0 by decide)
 have h2 := Int.emod_lt_of_pos (c / 4) (show (0 : Int) < 9 by decide)
 have h3 := Int.emod_nonneg (c / 4) (show (3 : Int) ≠ 0 by decide)
 have h4 := Int.emod_lt_of_pos (c / 4) (show (0 : Int) < 3 by decide)
 have : c % 4 = 0 ∨ c % 4 = 1 ∨ c % 4 = 2 ∨ c % 4 = 3 := by omega
 rcases this with e | e | e | e
 ·rw [e]; exact ⟨_, _, rfl, rfl, .inl rfl, h1, by omega, Qgj _⟩
 ·rw [e]; exact ⟨_, _, rfl, rfl, .inr (.inl rfl), by decide, by decide, Qke _⟩
 ·rw [e]; exact ⟨_, _, rfl, rfl, .inr (.inr rfl), by decide, by decide, Qkf _⟩
 ·rw [e]; exact ⟨_, _, rfl, rfl, .inl rfl, h3, by omega, Qgj _⟩
theorem RecNew.snoc {H0 H H1 H2 H3 : Hp} {ak ar a : Addr} {bs : List Box} {b : Box} (h : RecNew H0 H ak ar bs) (s1 : Same H H1) (n : b.name ∉ bs.map (·.name))
  (e2 : H2 = upd H1 ak (.dK (Qci (Qx bs) (Sum.inl b.name) (.str b.kind)))) (s2 : Same H2 H3) (ta : ThL H3 b.row a) (fa : H2 a = none) (s0 : Same H0 H2) {o : HO} (fl' : ∀ fl, H3 ar = some (.dK (Qt bs fl)) → o = .dK (Qci (Qt bs fl) (Sum.inl b.name) (.ref a))) :
  RecNew H0 (upd H3 ar o) ak ar (bs ++ [b]) := by
 obtain ⟨fl, h1, h2, p, nd, fr⟩ := h
 obtain ⟨m1, nd1⟩ := List.nodup_cons.mp nd
 obtain ⟨m2, nd2⟩ := List.nodup_cons.mp nd1
 have hka : ak ≠ ar := fun e => m1 (by simp [e])
 have r2 : H2 ar = some (.dK (Qt bs fl)) := by rw [e2, Qh hka.symm]; exact s1 _ _ h2
 have r3 := s2 _ _ r2
 have k2 : H2 ak = some (.dK (Qci (Qx bs) (Sum.inl b.name) (.str b.kind))) := by rw [e2]; exact Qd
 have k3 := s2 _ _ k2
 rw [QcS _ (keyOut n)] at k3
 have hl := QG p
 have t12 : Tups H1 H2 := by rw [e2]; exact Tups.upd (s1 _ _ h1) (by intro xs z; cases z)
 have t3 : Tups H3 (upd H3 ar o) := Tups.upd r3 (by intro xs z; cases z)
 have lists : ∀ c ∈ fl, c ≠ ak ∧ c ≠ ar := fun c hc => ⟨fun e => m1 (by simp [← e, hc]), fun e => m2 (by rw [← e]; exact hc)⟩
 have na : a ≠ ak ∧ a ≠ ar ∧ a ∉ fl := by
  refine ⟨fun e => ?_, fun e => ?_, fun hc => ?_⟩
  ·rw [e, k2] at fa; cases fa
  ·rw [e, r2] at fa; cases fa
  ·obtain ⟨j, hj⟩ := List.getElem?_of_mem hc
   obtain ⟨x, _, vs, z, _⟩ := QM p hj
   have z2 : H2 a = some (.lst vs) := by rw [e2, Qh (lists a hc).1]; exact s1 _ _ z
   rw [z2] at fa; cases fa
 refine ⟨fl ++ [a], ?_, ?_, ?_, ?_, ?_⟩
 ·rw [Qh hka, k3, Qiq]
 ·rw [Qd, fl' fl r3, QcS _ (QmX hl n), QhM hl]
 ·refine Qbc (QH (fun x c _ hc z => ?_) p) (.cons (ta.keep t3 (Qh na.2.1)) .nil)
  have z1 := z.same s1
  have z2 : ThL H2 x.row c := z1.keep t12 (by rw [e2, Qh (lists c hc).1])
  exact (z2.same s2).keep t3 (Qh (lists c hc).2)
 ·refine List.nodup_cons.mpr ⟨fun m => ?_, List.nodup_cons.mpr ⟨fun m => ?_, QcF nd2 na.2.2⟩⟩
  ·have m : ak = ar ∨ ak ∈ fl ∨ ak = a := by simpa using m
   rcases m with e | e | e
   ·exact hka e
   ·exact (lists _ e).1 rfl
   ·exact na.1 e.symm
  ·have m : ar ∈ fl ∨ ar = a := by simpa using m
   rcases m with e | e
   ·exact (lists _ e).2 rfl
   ·exact na.2.1 e.symm
 ·intro c hc
  have hc : c ∈ ak :: ar :: fl ∨ c = a := by simpa [or_assoc] using hc
  rcases hc with hc | rfl
  ·exact fr c hc
  ·exact s0.free fa
section
variable {C : Addr}
def Qkb (K : Fg) : Sp := fun vs H Q _ => ∃ (a : Addr) (ns : List Int) (many : Int), vs = [.ref a, .int many] ∧ Scr K H a ns ∧ 1 ≤ many ∧ many ≤ 1000 ∧
 ∀ m ak ar bs H', Same H H' → H' m = some (.tup [.ref ak, .ref ar]) → RecNew H H' ak ar bs → bs.map (·.name) = QK 1 many.toNat → (∀ b ∈ bs, BOk many b) → Q (.ref m) H'
end
def Box.blank (b : Box) : Box := ⟨b.name, b.kind, List.replicate b.row.length .non⟩
def e4 : List (List Int) := [[], [], [], []]
theorem Qe5 {C p l : Addr} {H H1 H2 : Hp} {A A2 : HA} {S : HS} {o : HO} (s : Same H H1) (f0 : ∀ b ∈ A.foot p, H b = none) (hl : H1 l = some o) (nl : l ∉ A.foot p) (fr : Frame (A.foot p) H1 H2) (gr : Grown (A.foot p) (A2.foot p) H1) :
  Same H H2 ∧ (∀ b ∈ A2.foot p, H b = none) ∧ H2 l = some o ∧ l ∉ A2.foot p := by
 refine ⟨fun b u e => fr b u (s _ _ e) fun m => ?_, fun b hb => ?_, fr l o hl nl, gr.out hl nl⟩
 ·have := f0 b m
  rw [e] at this; cases this
 ·rcases gr b hb with z | z
  ·exact f0 b z
  ·exact s.free z
theorem QjF (bs : List Box) (i : Nat) (b : Box) (h : bs[i]? = some b) : (bs.take (i + 1)).map Box.blank = (bs.take i).map Box.blank ++ [b.blank] := by
 rw [List.take_add_one, h, List.map_append]
 rfl
theorem QkC {bs : List Box} {n i : Nat} (h : bs.map (·.name) = QK 1 n) {b : Box} (hb : bs[i]? = some b) : b.name = 1 + (i : Int) ∧ i < n := by
 have h1 : (bs.map (·.name))[i]? = some b.name := by rw [List.getElem?_map, hb]; rfl
 have hl := (List.getElem?_eq_some_iff.mp h1).1
 rw [h, QJ] at hl
 rw [h, Qgs hl] at h1
 exact ⟨(Option.some.inj h1).symm, hl⟩
theorem QhI {lo : Int} {n i : Nat} {x : V} (h : ((QK lo n).map V.int)[i]? = some x) : i < n ∧ x = .int (lo + i) := by
 have hl := (List.getElem?_eq_some_iff.mp h).1
 rw [List.length_map, QJ] at hl
 rw [List.getElem?_map, Qgs hl] at h
 exact ⟨hl, (Option.some.inj h).symm⟩
theorem kindAt {bs : List Box} (nd : (bs.map (·.name)).Nodup) {i : Nat} {b : Box} (e : bs[i]? = some b) : Qa2 (Qx bs) (Sum.inl b.name) = some (.str b.kind) := by
 refine Qd9 (by rw [Zi]; exact Qeg nd) (i := i) ?_
 simp [Qx, e]
theorem rowAt {bs : List Box} {fl : List Addr} (hl : bs.length = fl.length) (nd : (bs.map (·.name)).Nodup) {i : Nat} {b : Box} {a : Addr} (e : bs[i]? = some b) (ha : fl[i]? = some a) : Qa2 (Qt bs fl) (Sum.inl b.name) = some (.ref a) := by
 refine Qd9 (by rw [QaH hl]; exact Qeg nd) (i := i) ?_
 unfold Qt
 rw [List.getElem?_map, List.getElem?_zip_eq_some.mpr (show bs[i]? = some (b, a).1 ∧ fl[i]? = some (b, a).2 from ⟨e, ha⟩)]
 rfl
theorem QcW (lo : Int) : ∀ n : Nat, (QK lo n).Pairwise (· < ·)
 | 0 => .nil
 | n + 1 => by
  rw [Qdr]
  refine List.pairwise_append.mpr ⟨QcW lo n, List.pairwise_singleton _ _, fun x hx y hy => ?_⟩
  rw [List.mem_singleton.mp hy]
  exact (ZG.mp hx).2
def ZN (bs : List Box) (i j : Nat) : List Box := bs.mapIdx fun k b => if k < i then b else if k = i then ⟨b.name, b.kind, b.row.take j ++ List.replicate (b.row.length - j) .non⟩ else b.blank
theorem Qki (bs : List Box) : ZN bs 0 0 = bs.map Box.blank := by
 unfold ZN
 refine List.ext_getElem? fun k => ?_
 rw [List.getElem?_mapIdx, List.getElem?_map]
 cases bs[k]? with
 | none => rfl
 | some b =>
  simp only [Option.map_some, Nat.not_lt_zero, if_false]
  split
  ·simp [Box.blank]
  ·rfl
theorem Qib {bs : List Box} {i : Nat} {b : Box} (h : bs[i]? = some b) : ZN bs i b.row.length = ZN bs (i + 1) 0 := by
 unfold ZN
 refine List.ext_getElem? fun k => ?_
 rw [List.getElem?_mapIdx, List.getElem?_mapIdx]
 cases e : bs[k]? with
 | none => rfl
 | some c =>
  simp only [Option.map_some, Option.some.injEq]
  by_cases h1 : k < i
  ·rw [if_pos h1, if_pos (by omega)]
  ·rw [if_neg h1]
   by_cases h2 : k = i
   ·subst h2
    rw [h] at e; cases e
    rw [if_pos rfl, if_pos (by omega)]
    simp
   ·rw [if_neg h2, if_neg (by omega)]
    split
    ·simp [Box.blank]
    ·rfl
theorem Qjl (bs : List Box) : ZN bs bs.length 0 = bs := by
 unfold ZN
 refine List.ext_getElem? fun k => ?_
 rw [List.getElem?_mapIdx]
 cases e : bs[k]? with
 | none => rfl
 | some c =>
  have := (List.getElem?_eq_some_iff.mp e).1
  simp only [Option.map_some, if_pos this]
theorem Qic (bs : List Box) (i j : Nat) : (ZN bs i j).map (·.name) = bs.map (·.name) := by
 unfold ZN
 refine List.ext_getElem? fun k => ?_
 rw [List.getElem?_map, List.getElem?_mapIdx, List.getElem?_map]
 cases bs[k]? with
 | none => rfl
 | some b =>
  simp only [Option.map_some]
  split
  ·rfl
  ·split <;> rfl
theorem QdG {bs : List Box} {i j : Nat} {b : Box} (h : bs[i]? = some b) : (ZN bs i j)[i]? = some ⟨b.name, b.kind, b.row.take j ++ List.replicate (b.row.length - j) .non⟩ := by
 unfold ZN
 rw [List.getElem?_mapIdx, h]
 simp
theorem Qht {α : Type} {l : List α} {j : Nat} {t x : α} (h : l[j]? = some t) : (l.take j ++ List.replicate (l.length - j) x).set j t = l.take (j + 1) ++ List.replicate (l.length - (j + 1)) x := by
 have hj := (List.getElem?_eq_some_iff.mp h).1
 have e : l.length - j = l.length - (j + 1) + 1 := by omega
 have ht : (l.take j).length = j := by rw [List.length_take]; omega
 rw [List.set_append_right _ _ (by omega), ht, Nat.sub_self, e, List.replicate_succ, List.set_cons_zero, List.take_add_one, h, List.append_assoc]
 rfl
theorem QdA {α : Type} {l m : List α} {j : Nat} {t : α} (h : l[j]? = some t) (hm : j < m.length) : (l.take j ++ m.drop j).set j t = l.take (j + 1) ++ m.drop (j + 1) := by
 have hj := (List.getElem?_eq_some_iff.mp h).1
 have ht : (l.take j).length = j := by rw [List.length_take]; omega
 rw [List.set_append_right _ _ (by omega), ht, Nat.sub_self, List.drop_eq_getElem_cons hm, List.set_cons_zero, List.take_add_one, h, List.append_assoc]
 rfl
theorem Qjk {bs : List Box} {i j : Nat} {b : Box} {t : T} (h : bs[i]? = some b) (ht : b.row[j]? = some t) : ZH (ZN bs i j) i j t = ZN bs i (j + 1) := by
 unfold ZH
 rw [QhC _ (QdG h)]
 refine List.ext_getElem? fun k => ?_
 rw [List.getElem?_set]
 by_cases e : i = k
 ·subst e
  rw [QdG h]
  have hl : i < (ZN bs i j).length := by
   have := (List.getElem?_eq_some_iff.mp h).1
   simpa [ZN] using this
  rw [if_pos rfl, if_pos hl, QdG h]
  simp only [Qht ht]
 ·rw [if_neg e]
  unfold ZN
  rw [List.getElem?_mapIdx, List.getElem?_mapIdx]
  cases bs[k]? with
  | none => rfl
  | some c =>
   simp only [Option.map_some]
   rw [if_neg (show ¬ k = i from fun q => e q.symm), if_neg (show ¬ k = i from fun q => e q.symm)]
section
variable {C : Addr}
def Qj9 (C : Addr) : Sp := fun vs H Q _ => ∃ (ak ar as : Addr) (fl : List Addr) (bs : List Box) (ts : List T) (extra : Int), vs = [.ref ak, .ref ar, .ref as, .int extra] ∧ H ak = some (.dK (Qx bs)) ∧ H ar = some (.dK (Qt bs fl)) ∧
 Paired (fun b a => ThL H b.row a) bs fl ∧ ThL H ts as ∧ bs.map (·.name) = QK 1 bs.length ∧ bs.length < 64 ∧ (∀ b ∈ bs, BOk bs.length b) ∧ 1 ≤ ts.length ∧ ts.length ≤ 1000 ∧ (∀ t ∈ ts, TOk bs.length t) ∧ 0 ≤ extra ∧
 ∀ p A H', Same H H' → HouseAt C H' p A ⟨bs.length + extra, ts, bs.length, bs, e4, e4⟩ → (∀ b ∈ A.foot p, H b = none) → Q (.ref p) H'
def spAs (C : Addr) : Sp := fun vs H Q _ => ∃ (p ak ar as : Addr) (A : HA) (S : HS) (fl : List Addr), vs = [.ref p, .ref ak, .ref ar, .ref as] ∧ HouseAt C H p A S ∧ H ak = some (.dK (Qx S.boxes)) ∧ H ar = some (.dK (Qt S.boxes fl)) ∧
 Paired (fun b a => ThL H b.row a) S.boxes fl ∧ ThL H S.slots as ∧ S.boxes.length < 64 ∧ ∀ H', Same H H' → Q (.bl true) H'
end
def Qmc (K : Fg) (a : Addr) (ns : List Int) : Rt where
 on H F := Scr K H a ns ∧ F = []
 keep := by
  rintro H H' F ⟨h, rfl⟩ k im
  exact ⟨h.keep im.f, rfl⟩
 there := by
  rintro H F ⟨h, rfl⟩ b hb
  simp at hb
theorem Own.scr {K : Fg} {H : Hp} {W : List Rt} {i : Nat} {a : Addr} {ns : List Int} (w : Own H W) (h : W[i]? = some (Qmc K a ns)) : Scr K H a ns := by
 obtain ⟨F, q, _⟩ := w.get h
 exact q
theorem Own.tup {H : Hp} {W : List Rt} {i : Nat} {a : Addr} {vs : List V} (w : Own H W) (h : W[i]? = some (Qmb a vs)) : H a = some (.tup vs) := by
 obtain ⟨F, q, _⟩ := w.get h
 exact q
theorem Own.ths {H : Hp} {W : List Rt} {i : Nat} {a : Addr} {ts : List T} (w : Own H W) (h : W[i]? = some (rThs a ts)) : ThL H ts a := by
 obtain ⟨F, q, _⟩ := w.get h
 exact q
theorem Own.rec {H : Hp} {W : List Rt} {i : Nat} {ak ar : Addr} {bs : List Box} (w : Own H W) (h : W[i]? = some (Qmd ak ar bs)) : ∃ fl, H ak = some (.dK (Qx bs)) ∧ H ar = some (.dK (Qt bs fl)) ∧ Paired (fun b a => ThL H b.row a) bs fl := by
 obtain ⟨F, fl, q1, q2, q3, _⟩ := w.get h
 exact ⟨fl, q1, q2, q3⟩
end LW
namespace LW
open PySem L2
section
variable {α : Type}
end
def swapB (bs : List Box) (i j : Nat) : List Box := match bs[i]?, bs[j]? with
 | some x, some y => (bs.set i ⟨x.name, y.kind, y.row⟩).set j ⟨y.name, x.kind, x.row⟩
 | _, _ => bs
def HS.swap (S : HS) (i j : Nat) : HS := { S with boxes := swapB S.boxes i j }
section
variable {bs : List Box} {fl : List Addr} {i j : Nat} {x y : Box} {fi fj : Addr}
end
section
variable {C : Addr} {H H' : Hp} {p : Addr} {A : HA} {S : HS} {i j : Nat} {x y : Box} {fi fj : Addr}
end
theorem QdX (n : Int) (ns : List Int) : inV (.int n) (ns.map V.int) = decide (n ∈ ns) := by
 unfold inV
 rw [List.any_map]
 induction ns with
 | nil => simp
 | cons m r ih =>
  rw [List.any_cons, ih]
  simp only [Function.comp, eqV, List.mem_cons]
  by_cases e : n = m
  ·subst e; simp
  ·have e2 : ¬ m = n := fun z => e z.symm
   simp [e, e2]
theorem QcJ (ns : List Int) : (ns.map V.int).all QcK = true := by
 rw [List.all_map]
 exact List.all_eq_true.mpr fun _ _ => rfl
theorem Qip {H H' : Hp} {xss : List (List Int)} {al : List Addr} {g : Nat} {a : Addr} {ns : List Int} (p : Paired (QjK H) xss al) (nd : al.Nodup) (ha : al[g]? = some a) (h1 : QjK H' ns a) (h2 : ∀ c ∈ al, c ≠ a → H' c = H c) : Paired (QjK H') (xss.set g ns) al := by
 have e : al = al.set g a := by
  refine List.ext_getElem? fun j => ?_
  rw [List.getElem?_set]
  by_cases q : g = j
  ·subst q; rw [ha]; simp [(List.getElem?_eq_some_iff.mp ha).1]
  ·simp [q]
 rw [e]
 exact Qed p h1 fun j x c hj hx hc z => (h2 c (List.mem_of_getElem? hc) fun q => hj (QbK nd (q ▸ hc) ha)).trans z
section
variable {C : Addr} {H : Hp} {p : Addr} {A : HA} {S : HS} {g : Nat} {a : Addr} {ns ms : List Int}
theorem HouseAt.parts (h : HouseAt C H p A S) : A.sl ∉ A.fl ++ (A.ql ++ A.tl) ∧ A.qs ∉ A.fl ++ (A.ql ++ A.tl) ∧ A.td ∉ A.fl ++ (A.ql ++ A.tl) ∧ A.fl.Nodup ∧ A.ql.Nodup ∧ A.tl.Nodup ∧ (∀ x ∈ A.fl, x ∉ A.ql ∧ x ∉ A.tl) ∧ ∀ x ∈ A.ql, x ∉ A.tl := by
 have nd := h.nd
 unfold HA.lists at nd
 obtain ⟨n1, nd⟩ := List.nodup_cons.mp nd
 obtain ⟨n2, nd⟩ := List.nodup_cons.mp nd
 obtain ⟨n3, nd⟩ := List.nodup_cons.mp nd
 obtain ⟨n4, n5, n6⟩ := List.nodup_append.mp nd
 obtain ⟨n7, n8, n9⟩ := List.nodup_append.mp n5
 exact ⟨fun m => n1 (List.mem_cons_of_mem _ (List.mem_cons_of_mem _ m)), fun m => n2 (List.mem_cons_of_mem _ m), n3, n4, n7, n8,
  fun x hx => ⟨fun m => n6 x hx x (List.mem_append_left _ m) rfl, fun m => n6 x hx x (List.mem_append_right _ m) rfl⟩, fun x hx m => n9 x hx x m rfl⟩
theorem HouseAt.setQueue (h : HouseAt C H p A S) (ha : A.ql[g]? = some a) (hi : QjK H ns a) : HouseAt C (upd H a (.lst (ms.map V.int))) p A { S with queues := S.queues.set g ms } := by
 obtain ⟨c1, c2, c3, c4, c5, c6, c7, c8⟩ := h.parts
 have ham := List.mem_of_getElem? ha
 have tu : Tups H (upd H a (.lst (ms.map V.int))) := Tups.upd hi (by intro xs z; cases z)
 have e1 : A.sl ≠ a := fun e => c1 (by rw [e]; simp [ham])
 have e2 : A.qs ≠ a := fun e => c2 (by rw [e]; simp [ham])
 have e3 : A.td ≠ a := fun e => c3 (by rw [e]; simp [ham])
 have e4 : ∀ c ∈ A.fl, c ≠ a := fun c hc e => (c7 c hc).1 (e ▸ ham)
 have e5 : ∀ c ∈ A.tl, c ≠ a := fun c hc e => c8 a ham (e ▸ hc)
 refine ⟨?_, h.sl.keep tu (Qh e1), ?_, ?_, QH (fun b c _ hc z => z.keep tu (Qh (e4 c hc))) h.fl, ?_, Qip h.ql c5 ha Qd (fun c _ n => Qh n), ?_, QH (fun b c _ hc z => (Qh (e5 c hc)).trans z) h.tl, h.nd, h.kf, h.asc, h.top⟩
 ·rw [Qh (QI h.ob hi (by intro z; cases z))]; exact h.ob
 ·rw [Qh (QI h.kd hi (by intro z; cases z))]; exact h.kd
 ·rw [Qh (QI h.fd hi (by intro z; cases z))]; exact h.fd
 ·rw [Qh e2]; exact h.qs
 ·rw [Qh e3]; exact h.td
theorem HouseAt.setTold (h : HouseAt C H p A S) (ha : A.tl[g]? = some a) (hi : QjK H ns a) : HouseAt C (upd H a (.lst (ms.map V.int))) p A { S with told := S.told.set g ms } := by
 obtain ⟨c1, c2, c3, c4, c5, c6, c7, c8⟩ := h.parts
 have ham := List.mem_of_getElem? ha
 have tu : Tups H (upd H a (.lst (ms.map V.int))) := Tups.upd hi (by intro xs z; cases z)
 have e1 : A.sl ≠ a := fun e => c1 (by rw [e]; simp [ham])
 have e2 : A.qs ≠ a := fun e => c2 (by rw [e]; simp [ham])
 have e3 : A.td ≠ a := fun e => c3 (by rw [e]; simp [ham])
 have e4 : ∀ c ∈ A.fl, c ≠ a := fun c hc e => (c7 c hc).2 (e ▸ ham)
 have e5 : ∀ c ∈ A.ql, c ≠ a := fun c hc e => c8 c hc (e ▸ ham)
 refine ⟨?_, h.sl.keep tu (Qh e1), ?_, ?_, QH (fun b c _ hc z => z.keep tu (Qh (e4 c hc))) h.fl, ?_, QH (fun b c _ hc z => (Qh (e5 c hc)).trans z) h.ql, ?_, Qip h.tl c6 ha Qd (fun c _ n => Qh n), h.nd, h.kf, h.asc, h.top⟩
 ·rw [Qh (QI h.ob hi (by intro z; cases z))]; exact h.ob
 ·rw [Qh (QI h.kd hi (by intro z; cases z))]; exact h.kd
 ·rw [Qh (QI h.fd hi (by intro z; cases z))]; exact h.fd
 ·rw [Qh e2]; exact h.qs
 ·rw [Qh e3]; exact h.td
end
def HS.watch (S : HS) (g : Nat) (ns : List Int) (n : Int) : HS := { S with queues := S.queues.set g (ns ++ [n]) }
def QjX (C : Addr) : Sp := fun vs H Q _ => ∃ (p : Addr) (A : HA) (S : HS) (g : Nat) (n : Int) (ns : List Int), vs = [.ref p, .int g, .int n] ∧ HouseAt C H p A S ∧ g < 4 ∧ S.queues[g]? = some ns ∧ n ∈ names S ∧ n ∉ ns ∧ ns.length < 1000 ∧ Out C H p A (S.watch g ns n) Q .non
def Qh7 (C : Addr) : Sp := fun vs H Q _ => ∃ (p : Addr) (A : HA) (S : HS) (g : Nat) (ns : List Int), vs = [.ref p, .int g] ∧ HouseAt C H p A S ∧ g < 4 ∧ S.told[g]? = some ns ∧ ∀ l, H l = none → Q (.ref l) (upd H l (.lst (ns.map V.int)))
structure Upto (C : Addr) (H : Hp) (p : Addr) (A : HA) (H' : Hp) (A' : HA) (S' : HS) : Prop where
 hh : HouseAt C H' p A' S'
 fr : Frame (A.foot p) H H'
 tu : Tups H H'
 gr : Grown (A.foot p) (A'.foot p) H
section
variable {C : Addr} {H H1 H2 : Hp} {p : Addr} {A A1 A2 : HA} {S1 S2 : HS} {l : Addr} {o : HO}
theorem Upto.refl {S : HS} (h : HouseAt C H p A S) : Upto C H p A H A S := ⟨h, Frame.refl _ _, Tups.refl _, Grown.refl _ _⟩
theorem Upto.step (u : Upto C H p A H1 A1 S1) (h : HouseAt C H2 p A2 S2) (fr : Frame (A1.foot p) H1 H2) (tu : Tups H1 H2) (gr : Grown (A1.foot p) (A2.foot p) H1) : Upto C H p A H2 A2 S2 where
 hh := h
 fr := fun b o e n => fr b o (u.fr b o e n) (u.gr.out e n)
 tu := u.tu.trans tu
 gr := fun b hb => by
  rcases gr b hb with z | z
  ·exact u.gr b z
  ·by_cases m : b ∈ A.foot p
   ·exact .inl m
   ·right
    cases e : H b with
    | none => rfl
    | some o => rw [u.fr b o e m] at z; cases z
theorem Upto.new (u : Upto C H p A H1 A1 S1) (n : H1 l = none) : Upto C H p A (upd H1 l o) A1 S1 :=
 u.step (u.hh.new n) (fun b o e _ => Zk e n) (Tups.new n) (Grown.refl _ _)
theorem Upto.same (u : Upto C H p A H1 A1 S1) (s : Same H1 H2) : Upto C H p A H2 A1 S1 :=
 u.step (u.hh.same s) (Frame.of_same s) (Tups.of_same s) (Grown.refl _ _)
theorem Upto.keep (u : Upto C H p A H1 A1 S1) {b : Addr} {o : HO} (e : H b = some o) (n : b ∉ A.foot p) : H1 b = some o ∧ b ∉ A1.foot p := ⟨u.fr b o e n, u.gr.out e n⟩
theorem Upto.out {Q : V → Hp → Prop} {v : V} (u : Upto C H p A H1 A1 S1) (k : Out C H p A S1 Q v) : Q v H1 := k A1 H1 u.hh u.fr u.tu u.gr
end
def QjJ (H : Hp) (w : Addr) (al : List Addr) (xss : List (List Int)) : Prop := H w = some (.lst (al.map V.ref)) ∧ Paired (QjK H) xss al
def LlsNew (H0 H : Hp) (w : Addr) (xss : List (List Int)) : Prop := ∃ al, QjJ H w al xss ∧ (w :: al).Nodup ∧ ∀ b ∈ w :: al, H0 b = none
def QjY (K : Fg) : Sp := fun vs H Q _ => ∃ (a : Addr) (ns : List Int) (many : Int), vs = [.ref a, .int many] ∧ Scr K H a ns ∧ 1 ≤ many ∧
 ∀ w xss H', Same H H' → LlsNew H H' w xss → xss.length = 4 → (∀ xs ∈ xss, xs.Nodup ∧ xs.length ≤ 8 ∧ ∀ n ∈ xs, 1 ≤ n ∧ n ≤ many) → Q (.ref w) H'
def Qhk (C : Addr) : Sp := fun vs H Q _ => ∃ (p w : Addr) (A : HA) (S : HS) (al : List Addr) (xss : List (List Int)), vs = [.ref p, .ref w] ∧ HouseAt C H p A S ∧ QjJ H w al xss ∧ (∀ b ∈ w :: al, b ∉ A.foot p) ∧ S.queues = [[], [], [], []] ∧ xss.length = 4 ∧
 (∀ xs ∈ xss, xs.Nodup ∧ xs.length ≤ 8 ∧ ∀ n ∈ xs, n ∈ names S) ∧ Out C H p A { S with queues := xss } Q .non
def QiI (C : Addr) : Sp := fun vs H Q _ => ∃ (p w t : Addr) (A : HA) (S : HS) (al bl : List Addr), vs = [.ref p, .ref w, .ref t] ∧ HouseAt C H p A S ∧ QjJ H w al S.queues ∧ QjJ H t bl S.told ∧ S.queues.length = 4 ∧ S.told.length = 4 ∧
 (∀ xs ∈ S.queues, xs.length ≤ 1000) ∧ (∀ xs ∈ S.told, xs.length ≤ 1000) ∧ ∀ H', Same H H' → Q (.bl true) H'
section
variable {H : Hp} {W : List Rt} {i j : Nat} {r r2 : Rt}
theorem Own.chg2 (w : Own H W) (h : W[i]? = some r) (h2 : W[j]? = some r2) (hij : j ≠ i) : ∃ (F G F2 : List Addr), r.on H F ∧ F.Nodup ∧ r2.on H F2 ∧ (∀ b ∈ F2, b ∈ G) ∧ (∀ b ∈ F, b ∉ G) ∧ (∀ b ∈ G, ∃ o, H b = some o) ∧
  ∀ (H' : Hp) (r' : Rt) (F' : List Addr), r'.on H' F' → F'.Nodup → (∀ b ∈ F', b ∈ F ∨ H b = none) → (∀ b ∈ G, H' b = H b) → Imm H H' → Own H' (W.set i r') := by
 obtain ⟨Fs, p, nd⟩ := w
 obtain ⟨F, hF, q⟩ := Zt p h
 obtain ⟨F2, hF2, q2⟩ := Zt p h2
 obtain ⟨n1, n2, n3⟩ := QgZ hF nd
 have mem : ∀ (m : Nat) (F3 : List Addr), m ≠ i → Fs[m]? = some F3 → ∀ b ∈ F3, b ∈ QaU Fs i := fun m F3 hm e b hb => by
  refine List.mem_flatten.mpr ⟨F3, List.mem_iff_getElem?.mpr ?_, hb⟩
  by_cases l : m < i
  ·exact ⟨m, by rw [List.getElem?_eraseIdx_of_lt l]; exact e⟩
  ·obtain ⟨k, rfl⟩ : ∃ k, m = k + 1 := ⟨m - 1, by omega⟩
   exact ⟨k, by rw [List.getElem?_eraseIdx_of_ge (by omega)]; exact e⟩
 have th : ∀ b ∈ QaU Fs i, ∃ o, H b = some o := fun b hb => by
  obtain ⟨G, hG, hb⟩ := List.mem_flatten.mp hb
  obtain ⟨j, hj⟩ := List.getElem?_of_mem (List.mem_of_mem_eraseIdx hG)
  obtain ⟨r2, _, q2⟩ := QM p hj
  exact r2.there q2 b hb
 refine ⟨F, QaU Fs i, F2, q, n1, q2, mem j F2 hij hF2, n3, th, fun H' r' F' q' nd' sub kp im => ⟨Fs.set i F', Qed p q' fun m a b hm h1 h2 z => a.keep z (fun c hc => kp c (mem m b hm h2 c hc)) im, Qim hF nd' n2 fun b hb hz => ?_⟩⟩
 rcases sub b hb with z | z
 ·exact n3 b z hz
 ·obtain ⟨u, e⟩ := th b hz
  rw [z] at e; cases e
theorem Own.lls {a : Addr} {xss : List (List Int)} (w : Own H W) (h : W[i]? = some (QmM a xss)) : ∃ al, QjJ H a al xss := by
 obtain ⟨F, al, q1, q2, _⟩ := w.get h
 exact ⟨al, q1, q2⟩
theorem LlsNew.on {H0 : Hp} {a : Addr} {xss : List (List Int)} (h : LlsNew H0 H a xss) : ∃ F, (QmM a xss).on H F ∧ F.Nodup ∧ ∀ b ∈ F, H0 b = none := let ⟨al, ⟨a1, a2⟩, b, c⟩ := h; ⟨_, ⟨al, a1, a2, rfl⟩, b, c⟩
theorem Own.houseLls {C p a : Addr} {S : HS} {xss : List (List Int)} (w : Own H W) (h : W[i]? = some (Qcy C p S)) (h2 : W[j]? = some (QmM a xss)) (hij : j ≠ i) : ∃ A al, HouseAt C H p A S ∧ QjJ H a al xss ∧ (∀ b ∈ a :: al, b ∉ A.foot p) ∧
  ∀ A' H' S', HouseAt C H' p A' S' → Frame (A.foot p) H H' → Tups H H' → Grown (A.foot p) (A'.foot p) H → Own H' (W.set i (Qcy C p S')) := by
 obtain ⟨F, G, F2, ⟨A, hh, rfl⟩, nd, ⟨al, q1, q2, rfl⟩, sub, dj, th, fin⟩ := w.chg2 h h2 hij
 refine ⟨A, al, hh, ⟨q1, q2⟩, fun b hb m => dj b m (sub b hb), fun A' H' S' hh' fr tu gr => fin H' _ (A'.foot p) ⟨A', hh', rfl⟩ (HA.footNd hh') gr (fun b hb => ?_) ⟨tu, hh.frz fr⟩⟩
 obtain ⟨o, e⟩ := th b hb
 rw [e]
 exact fr b o e fun m => dj b m hb
variable {ak ar : Addr} {bs : List Box} {m n : Nat} {x y : Box}
end
end LW
namespace L2
open PySem PySem.Spec PyProof.Rows
section
variable {X : Cx} {pins : Pn} {σ : St} {H : Hp} {s : Shared} {a : Addr} {kvs : List (Key × V)} {k : Key} {u r : Value} {d : V} {A : Around} {E : Value → Shared → Prop}
theorem QlV {Q : Value → Shared → Prop} (I : Inv X pins σ H s) (e : H a = some (.dK kvs)) (ry : RelV (kV k) u) (rd : RelV d r) (hz : kvs.length < sizeLine)
  (h1 : ∀ v, Qa2 kvs k = some v → ∀ w' s', Inv X pins σ H s' → RelV v w' → Q w' s') (h2 : Qa2 kvs k = none → ∀ s', Inv X pins σ (upd H a (.dK (Qci kvs k d))) s' → Q r s') :
  wpAny (model X.prog X.w) A (call (.builtin "dict.setdefault") [.ref a, u, r]) Q E s := by
 obtain ⟨z, hd, vs, rel, dd⟩ := Qk4 I.hok e
 refine call_meetsIn PySem.F.slot_dict_setdefault dd.typeIs PySem.F.entry_dict_setdefault (PySem.F.args_dict_setdefault_3 _ _ _) (PySem.kt_meets_setdefault (QS X.prog X.w) a (QfL ry) hd r) ⟨vs, dd, by rw [← rel.length]; exact z, fun v hv => ?_, fun hn h' dd' hs => ?_⟩
 ·have rv := rel.val k
  rw [hv] at rv
  cases e2 : Qa2 kvs k with
  | none => rw [e2] at rv; exact rv.elim
  | some x => rw [e2] at rv; exact h1 x e2 v _ (I.tok _) rv
 ·have rv := rel.val k
  rw [hn] at rv
  cases e2 : Qa2 kvs k with
  | some x => rw [e2] at rv; exact rv.elim
  | none =>
   have hl : (Qci kvs k d).length ≤ sizeLine := by have := Qb4 kvs k d; omega
   have he : ∃ q, h'.get? a = some q := let ⟨q, _, _, hq, _⟩ := dd'; ⟨q, hq⟩
   exact h2 e2 _ (QfN I (by rw [e]; exact True.intro) hs he (QhR hl hd (rel.put k rd) dd'))
end
def tDSet2 (td ty tx : TE) : TE := fun σ H Q => td σ H fun x H1 => ∃ a, x = .ref a ∧ IsD H1 a ∧ ty σ H1 fun y H2 => tx σ H2 fun z H3 => ∃ kvs k, H3 a = some (.dK kvs) ∧ y = kV k ∧ kvs.length < sizeLine ∧
 (∀ v, Qa2 kvs k = some v → Q v H3) ∧ (Qa2 kvs k = none → Q z (upd H3 a (.dK (Qci kvs k z))))
theorem Qjm {X : Cx} {o e f : Expr} {td ty tx : TE} {apos cpos : Pos} (ho : PE X o td) (he : PE X e ty) (hf : PE X f tx) (m : M2 X o "setdefault" apos e f cpos) : PE X (.Call (.Attribute o "setdefault" apos) [e, f] [] cpos) (tDSet2 td ty tx) := by
 intro pins s σ H Q I h
 refine wpAny_Call_method m.base m.few m.line PySem.F.plainAttrs_dict PySem.F.slot_dict_setdefault PySem.F.type_dict_setdefault (thn (ho pins s σ H _ I h) fun u s1 ⟨x, H1, I1, rx, a, ex, d, q1⟩ => ?_)
 subst ex
 obtain rfl : u = Value.ref a := rx
 obtain ⟨t1, t2, _⟩ := QkP I1 d
 refine ⟨t1, t2, ?_⟩
 rw [m.trees]
 refine Calls.callWith_builtin rfl (Calls.evalArgs_plain (Calls.spliced_cons (thn (he pins s1 σ H1 _ I1 q1) fun iv s2 ⟨y, H2, I2, ry, q2⟩ =>
  Calls.spliced_cons (thn (hf pins s2 σ H2 _ I2 q2) fun fv s3 ⟨z, H3, I3, rz, kvs, k, e3, ey, hz, q3, q4⟩ => Calls.spliced_nil ?_))))
 subst ey
 exact QlV I3 e3 ry rz hz (fun v hv w' s4 I4 rw' => ⟨_, H3, I4, rw', q3 v hv⟩) fun hn s4 I4 => ⟨_, _, I4, rz, q4 hn⟩
end L2
namespace LW
open PySem L2
theorem QbJ : ∀ {l m : List Int}, l.Nodup → (∀ x ∈ l, x ∈ m) → l.length ≤ m.length
 | [], _, _, _ => Nat.zero_le _
 | x :: l, m, nd, h => by
  obtain ⟨n1, n2⟩ := List.nodup_cons.mp nd
  have hx : x ∈ m := h x List.mem_cons_self
  have := QbJ (l := l) (m := m.erase x) n2 fun y hy => (List.mem_erase_of_ne (show y ≠ x from fun e => n1 (by rw [← e]; exact hy))).mpr (h y (List.mem_cons_of_mem _ hy))
  rw [List.length_erase_of_mem hx] at this
  have hp : 0 < m.length := List.length_pos_of_mem hx
  rw [List.length_cons]; omega
inductive Rw where
 | slot (n s : Int) | told (n g : Int) | bes (n : Int) | plain (n h at_ : Int) | pair (n h : Int)
def Rw.nm : Rw → Int
 | .slot n _ => n
 | .told n _ => n
 | .bes n => n
 | .plain n _ _ => n
 | .pair n _ => n
def Rw.vs : Rw → List V
 | .slot n s => [.int n, .str "slot", .int s]
 | .told n g => [.int n, .str "told", .int g]
 | .bes n => [.int n, .str "besides"]
 | .plain n h i => [.int n, .str "plain", .int h, .int i]
 | .pair n h => [.int n, .str "pair", .int h]
theorem Rw.first (r : Rw) : ∃ more, r.vs = .int r.nm :: more := by cases r <;> exact ⟨_, rfl⟩
def isRw (H : Hp) (r : Rw) (v : V) : Prop := ∃ a, v = .ref a ∧ H a = some (.tup r.vs)
theorem isRw.keep {H H' : Hp} {r : Rw} {v : V} (t : Tups H H') (h : isRw H r v) : isRw H' r v := let ⟨a, e, q⟩ := h; ⟨a, e, t _ _ q⟩
def Qms (H : Hp) (l : Addr) (rows : List Rw) : Prop := ∃ vs, H l = some (.lst vs) ∧ Paired (isRw H) rows vs
structure SS where
 rows : List Rw
 locked : List (Int × List Int)
def SS.names (st : SS) : List Int := st.rows.map Rw.nm
structure SB where
 dx : Addr
 rl : Addr
 ld : Addr
 kd : Addr
 ll : List Addr
def SB.foot (B : SB) (q : Addr) : List Addr := q :: B.ld :: B.kd :: B.rl :: B.ll
def Qhv (p : Addr) (B : SB) : List (Str × V) := [("house", .ref p), ("rows", .ref B.rl), ("listed", .ref B.ld), ("locked", .ref B.kd)]
def Qad (rows : List Rw) : List (Key × V) := rows.map fun r => ((Sum.inl r.nm : Key), V.bl true)
def Qch (l : List (Int × List Int)) (al : List Addr) : List (Key × V) := (l.zip al).map fun q => ((Sum.inl q.1.1 : Key), V.ref q.2)
structure SearchAt (CS : Addr) (H : Hp) (q p : Addr) (B : SB) (st : SS) : Prop where
 ob : H q = some (.ins CS B.dx (Qhv p B))
 rl : Qms H B.rl st.rows
 ld : H B.ld = some (.dK (Qad st.rows))
 kd : H B.kd = some (.dK (Qch st.locked B.ll))
 ll : Paired (fun x a => QjK H x.2 a) st.locked B.ll
 nd : (B.rl :: B.ll).Nodup
 kf : B.ld ≠ B.kd
 un : st.names.Nodup
 lk : (st.locked.map (·.1)).Nodup
structure TSx (K : Fg) (mg : Str → Option Value) (CS : Addr) : Prop where
 cl : Cls K CS
 n_house : NoAttr K CS "house"
 n_rows : NoAttr K CS "rows"
 n_listed : NoAttr K CS "listed"
 n_locked : NoAttr K CS "locked"
 g_search : mg "Search" = some (.ref CS)
section
variable {p : Addr} {B : SB}
theorem QbQ : (Qhv p B).lookup ("house" : Str) = some (V.ref p) := QcH
theorem Qfb : (Qhv p B).lookup ("rows" : Str) = some (V.ref B.rl) := (Qy (by decide +kernel)).trans QcH
theorem Qfc : (Qhv p B).lookup ("listed" : Str) = some (V.ref B.ld) := (Qy (by decide +kernel)).trans ((Qy (by decide +kernel)).trans QcH)
theorem Qhs : (Qhv p B).lookup ("locked" : Str) = some (V.ref B.kd) := (Qy (by decide +kernel)).trans ((Qy (by decide +kernel)).trans ((Qy (by decide +kernel)).trans QcH))
theorem Z1 {m : Str} (h : ((["house", "rows", "listed", "locked"] : List Str).all fun k => !(m == k)) = true) : (Qhv p B).lookup m = none := by
 simp only [List.all_cons, List.all_nil, Bool.and_true, Bool.and_eq_true, Bool.not_eq_true'] at h
 obtain ⟨h1, h2, h3, h4⟩ := h
 exact (Qy h1).trans ((Qy h2).trans ((Qy h3).trans ((Qy h4).trans rfl)))
end
section
variable {CS : Addr} {H H' : Hp} {q p : Addr} {B : SB} {st : SS}
theorem SearchAt.keep (h : SearchAt CS H q p B st) (k : ∀ b ∈ B.foot q, H' b = H b) (t : Tups H H') : SearchAt CS H' q p B st where
 ob := (k q (by simp [SB.foot])).trans h.ob
 rl := let ⟨vs, a, b⟩ := h.rl; ⟨vs, (k _ (by simp [SB.foot])).trans a, QH (fun _ _ _ _ z => z.keep t) b⟩
 ld := (k _ (by simp [SB.foot])).trans h.ld
 kd := (k _ (by simp [SB.foot])).trans h.kd
 ll := QH (fun x a _ ha z => (k _ (by simp [SB.foot, ha])).trans z) h.ll
 nd := h.nd
 kf := h.kf
 un := h.un
 lk := h.lk
theorem SearchAt.there (h : SearchAt CS H q p B st) : ∀ b ∈ B.foot q, ∃ o, H b = some o := fun b hb => by
 have hb : b = q ∨ b = B.ld ∨ b = B.kd ∨ b = B.rl ∨ b ∈ B.ll := by simpa [SB.foot] using hb
 rcases hb with e | e | e | e | e
 ·exact ⟨_, e ▸ h.ob⟩
 ·exact ⟨_, e ▸ h.ld⟩
 ·exact ⟨_, e ▸ h.kd⟩
 ·obtain ⟨vs, z, _⟩ := h.rl; exact ⟨_, e ▸ z⟩
 ·obtain ⟨i, hi⟩ := List.getElem?_of_mem e
  obtain ⟨x, _, z⟩ := QM h.ll hi
  exact ⟨_, z⟩
theorem SearchAt.same (h : SearchAt CS H q p B st) (s : Same H H') : SearchAt CS H' q p B st := h.keep (fun b hb => by
 obtain ⟨o, e⟩ := h.there b hb
 rw [e]; exact s _ _ e) (Tups.of_same s)
theorem SearchAt.new (h : SearchAt CS H q p B st) {a : Addr} {o : HO} (n : H a = none) : SearchAt CS (upd H a o) q p B st := h.same (Same.new n)
theorem SearchAt.out (h : SearchAt CS H q p B st) {a : Addr} (n : H a = none) : a ∉ B.foot q := fun z => by
 obtain ⟨o, e⟩ := h.there a z
 rw [n] at e; cases e
end
def SS.add (st : SS) (r : Rw) : SS := if r.nm ∈ st.names then st else { st with rows := st.rows ++ [r] }
theorem Qeh (rows : List Rw) (n : Int) : (Qa2 (Qad rows) (Sum.inl n)).isSome = decide (n ∈ rows.map Rw.nm) := by
 cases e : Qa2 (Qad rows) (Sum.inl n) with
 | some v =>
  have := Qh5 e
  rw [Qad, List.map_map] at this
  obtain ⟨r, hr, z⟩ := List.mem_map.mp this
  have z : r.nm = n := Sum.inl.inj z
  simp only [Option.isSome_some]
  exact (decide_eq_true (List.mem_map.mpr ⟨r, hr, z⟩)).symm
 | none =>
  have := QiD e
  refine (decide_eq_false fun m => this ?_).symm
  obtain ⟨r, hr, z⟩ := List.mem_map.mp m
  rw [Qad, List.map_map]
  exact List.mem_map.mpr ⟨r, hr, by rw [← z]; rfl⟩
def QcR (CS : Addr) : Sp := fun vs H Q _ => ∃ (q p r : Addr) (B : SB) (st : SS) (row : Rw), vs = [.ref q, .ref r] ∧ SearchAt CS H q p B st ∧ H r = some (.tup row.vs) ∧ st.rows.length < 1000 ∧ ∀ H', SearchAt CS H' q p B (st.add row) → Frame (B.foot q) H H' → Tups H H' → Q .non H'
theorem SearchAt.added {CS : Addr} {H : Hp} {q p r : Addr} {B : SB} {st : SS} {row : Rw} {vs : List V} (h : SearchAt CS H q p B st) (hr : H r = some (.tup row.vs)) (n : row.nm ∉ st.names) (hv : H B.rl = some (.lst vs)) (pr : Paired (isRw H) st.rows vs) :
  SearchAt CS (upd (upd H B.ld (.dK (Qci (Qad st.rows) (Sum.inl row.nm) (.bl true)))) B.rl (.lst (vs ++ [.ref r]))) q p B { st with rows := st.rows ++ [row] } := by
 have q1 : q ≠ B.ld := QI h.ob h.ld (by intro z; cases z)
 have q2 : q ≠ B.rl := QI h.ob hv (by intro z; cases z)
 have k2 : B.kd ≠ B.rl := QI h.kd hv (by intro z; cases z)
 have l2 : B.ld ≠ B.rl := QI h.ld hv (by intro z; cases z)
 obtain ⟨n1, n2⟩ := List.nodup_cons.mp h.nd
 have t1 : Tups H (upd H B.ld (.dK (Qci (Qad st.rows) (Sum.inl row.nm) (.bl true)))) := Tups.upd h.ld (by intro xs z; cases z)
 have hv1 : (upd H B.ld (.dK (Qci (Qad st.rows) (Sum.inl row.nm) (.bl true)))) B.rl = some (.lst vs) := by rw [Qh l2.symm]; exact hv
 have t2 := t1.trans (Tups.upd (o := .lst (vs ++ [.ref r])) hv1 (by intro xs z; cases z))
 have hn : Qa2 (Qad st.rows) (Sum.inl row.nm) = none := by
  have := Qeh st.rows row.nm
  rw [decide_eq_false (show ¬ row.nm ∈ st.rows.map Rw.nm from n)] at this
  cases e : Qa2 (Qad st.rows) (Sum.inl row.nm) with
  | none => rfl
  | some v => rw [e] at this; cases this
 refine ⟨?_, ⟨_, Qd, Qbc (QH (fun _ _ _ _ z => z.keep t2) pr) (.cons ⟨r, rfl, t2 _ _ hr⟩ .nil)⟩, ?_, ?_, ?_, h.nd, h.kf, ?_, h.lk⟩
 ·rw [Qh q2, Qh q1]; exact h.ob
 ·rw [Qh l2, Qd, QcS _ hn]
  show _ = some (HO.dK (Qad (st.rows ++ [row])))
  rw [Qad, Qad, List.map_append]; rfl
 ·rw [Qh k2, Qh h.kf.symm]; exact h.kd
 ·refine QH (fun x a _ ha z => ?_) h.ll
  have e1 : a ≠ B.rl := fun e => n1 (e ▸ ha)
  have e2 : a ≠ B.ld := QI z h.ld (by intro w; cases w)
  show upd _ _ _ a = _
  rw [Qh e1, Qh e2]; exact z
 ·show ((st.rows ++ [row]).map Rw.nm).Nodup
  rw [List.map_append]
  exact QcF h.un n
structure HS.Ok (S : HS) : Prop where
 row : ∀ b ∈ S.boxes, ∀ t ∈ b.row, t.In (names S)
 pair : ∀ b ∈ S.boxes, b.kind = "pair" → b.row.length = 2
 slot : ∀ t ∈ S.slots, t.In (names S)
 told : ∀ xs ∈ S.told, ∀ n ∈ xs, n ∈ names S
 few : S.boxes.length ≤ 900
 eight : ∀ b ∈ S.boxes, b.row.length ≤ 900
structure SH (C CS : Addr) (H : Hp) (q p : Addr) (A : HA) (S : HS) (B : SB) (st : SS) : Prop where
 hs : SearchAt CS H q p B st
 hh : HouseAt C H p A S
 ap : ∀ b ∈ A.foot p, b ∉ B.foot q
 ins : ∀ n ∈ st.names, n ∈ names S
 ok : S.Ok
structure UpS (C CS : Addr) (H : Hp) (q p : Addr) (A : HA) (S : HS) (B : SB) (H' : Hp) (B' : SB) (st' : SS) : Prop where
 sh : SH C CS H' q p A S B' st'
 fr : Frame (B.foot q) H H'
 tu : Tups H H'
 gr : Grown (B.foot q) (B'.foot q) H
def OutH (C CS : Addr) (H : Hp) (q p : Addr) (A : HA) (S : HS) (B : SB) (st' : SS) (Q : V → Hp → Prop) (v : V) : Prop := ∀ B' H', UpS C CS H q p A S B H' B' st' → Q v H'
section
variable {C CS : Addr} {H H1 H2 : Hp} {q p l : Addr} {A : HA} {S : HS} {B B1 B2 : SB} {st st1 st2 : SS} {o : HO}
theorem SH.few (h : SH C CS H q p A S B st) : st.rows.length ≤ 900 := by
 have := QbJ h.hs.un h.ins
 have e : st.names.length = st.rows.length := by simp [SS.names]
 have e2 : (names S).length = S.boxes.length := by simp [names]
 have := h.ok.few
 omega
theorem SH.house (h : SH C CS H q p A S B st) (fr : Frame (B.foot q) H H1) (tu : Tups H H1) : HouseAt C H1 p A S := h.hh.keep (fun b hb => by
 obtain ⟨u, e⟩ := h.hh.there b hb
 rw [e]; exact fr b u e (h.ap b hb)) tu
theorem UpS.refl (h : SH C CS H q p A S B st) : UpS C CS H q p A S B H B st := ⟨h, Frame.refl _ _, Tups.refl _, Grown.refl _ _⟩
theorem UpS.step (u : UpS C CS H q p A S B H1 B1 st1) (h : SearchAt CS H2 q p B2 st2) (fr : Frame (B1.foot q) H1 H2) (tu : Tups H1 H2) (gr : Grown (B1.foot q) (B2.foot q) H1) (ins : ∀ n ∈ st2.names, n ∈ names S) : UpS C CS H q p A S B H2 B2 st2 where
 sh := ⟨h, u.sh.house fr tu, (fun b hb m => by
  rcases gr b m with z | z
  ·exact u.sh.ap b hb z
  ·obtain ⟨o, e⟩ := u.sh.hh.there b hb
   rw [z] at e
   exact nomatch e), ins, u.sh.ok⟩
 fr := fun b o e n => fr b o (u.fr b o e n) (u.gr.out e n)
 tu := u.tu.trans tu
 gr := fun b hb => by
  rcases gr b hb with z | z
  ·exact u.gr b z
  ·by_cases m : b ∈ B.foot q
   ·exact .inl m
   ·right
    cases e : H b with
    | none => rfl
    | some o => rw [u.fr b o e m] at z; cases z
theorem UpS.trans (u : UpS C CS H q p A S B H1 B1 st1) (v : UpS C CS H1 q p A S B1 H2 B2 st2) : UpS C CS H q p A S B H2 B2 st2 := u.step v.sh.hs v.fr v.tu v.gr v.sh.ins
theorem UpS.new (u : UpS C CS H q p A S B H1 B1 st1) (n : H1 l = none) : UpS C CS H q p A S B (upd H1 l o) B1 st1 :=
 u.step (u.sh.hs.new n) (fun b o e _ => Zk e n) (Tups.new n) (Grown.refl _ _) u.sh.ins
theorem UpS.keep (u : UpS C CS H q p A S B H1 B1 st1) {b : Addr} {o : HO} (e : H b = some o) (n : b ∉ B.foot q) : H1 b = some o ∧ b ∉ B1.foot q := ⟨u.fr b o e n, u.gr.out e n⟩
def OutB (C CS : Addr) (H : Hp) (q p : Addr) (A : HA) (S : HS) (B : SB) (st' : SS) (Q : V → Hp → Prop) (v : V) : Prop := ∀ H', UpS C CS H q p A S B H' B st' → Q v H'
theorem UpS.outB {Q : V → Hp → Prop} {v : V} (u : UpS C CS H q p A S B H1 B st1) (k : OutB C CS H q p A S B st1 Q v) : Q v H1 := k H1 u
theorem UpS.out {Q : V → Hp → Prop} {v : V} (u : UpS C CS H q p A S B H1 B1 st1) (k : OutH C CS H q p A S B st1 Q v) : Q v H1 := k B1 H1 u
theorem SS.add_ins {r : Rw} (h : ∀ n ∈ st.names, n ∈ LW.names S) (hr : r.nm ∈ LW.names S) : ∀ n ∈ (st.add r).names, n ∈ LW.names S := fun n hn => by
 unfold SS.add at hn
 split at hn
 ·exact h n hn
 ·have hn : n ∈ (st.rows ++ [r]).map Rw.nm := hn
  rw [List.map_append] at hn
  rcases List.mem_append.mp hn with z | z
  ·exact h n z
  ·rw [List.mem_singleton.mp z]; exact hr
end
def SS.addT (st : SS) (t : T) (mk : Int → Rw) : SS := match t with
 | .box n => st.add (mk n)
 | _ => st
def addTs (mk : Int → Int → Rw) (st : SS) (ts : List T) : SS := (ts.zipIdx).foldl (fun st x => st.addT x.1 fun n => mk n x.2) st
theorem Qer (mk : Int → Int → Rw) (st : SS) (ts : List T) (t : T) : addTs mk st (ts ++ [t]) = (addTs mk st ts).addT t fun n => mk n ts.length := by
 unfold addTs
 rw [List.zipIdx_append, List.foldl_append]
 simp
def QcQ (C CS : Addr) : Sp := fun vs H Q _ => ∃ (q p : Addr) (A : HA) (S : HS) (B : SB) (st : SS) (i : Nat) (b : Box) (t : T), vs = [.ref q, .int b.name] ∧ SH C CS H q p A S B st ∧ S.boxes[i]? = some b ∧ b.row[1]? = some t ∧ OutB C CS H q p A S B (st.addT t fun n => .pair n b.name) Q .non
def Qfa (C CS : Addr) : Sp := fun vs H Q _ => ∃ (q p : Addr) (A : HA) (S : HS) (B : SB) (st : SS) (i : Nat) (b : Box), vs = [.ref q, .int b.name] ∧ SH C CS H q p A S B st ∧ S.boxes[i]? = some b ∧ OutB C CS H q p A S B (addTs (fun n at_ => .plain n b.name at_) st b.row) Q .non
section
variable {X : Cx} {n : Nat} {x m : Str} {ps : List Str} {sp : Sp} {dss : List (List Value)} {e o : Expr} {es : List Expr} {t : TA} {ta : TE} {p pos apos : Pos} {C : Addr}
theorem qc (D : DefOk X.prog X.w X.K X.mg X.base n x ps sp ([] :: dss)) (hr : Room n X.A) (ha : PA X (e :: es) t) (hg : Gl X x := by rfl) (hdb : (x == ("__debug__" : Str)) = false := by decide) (he : starEach (e :: es) X.env = (false, eval e X.env) :: starEach es X.env := by rfl) (hpl : (backTo pos (starEach es X.env)).any (·.1) = false := by rfl) :
  PE X (.Call (.Name x p) (e :: es) [] pos) (Qlp sp [] E0 t) := let ⟨_, _, a, k, F, b⟩ := D; QgM F hr hg a k (b [] List.mem_cons_self) .nil Qig ha hdb he hpl
theorem qm {pl : Sem Bool} (M : MethOk X.prog X.w X.K X.mg X.base C n m ps sp ([] :: dss)) (he : PE X o ta) (c : Cls X.K C) (hr : Room n X.A) (ha : PA X (e :: es) t)
  (hst : starEach (e :: es) X.env = (false, eval e X.env) :: starEach es X.env := by rfl) (hpl : (backTo pos (starEach es X.env)).any (·.1) = false := by rfl)
  (ht : eval (.Call (.Attribute o m apos) (e :: es) [] pos) X.env = (do
   let ov ← eval o X.env
   standAt apos.atName
   let (f, first) ← holding [ov] (getMethod ov m pl)
   callWith pos f first (backTo pos (starEach (e :: es) X.env)) (backToKw pos (keywordEach [] X.env))) := by rfl) :
  PE X (.Call (.Attribute o m apos) (e :: es) [] pos) (Qjf C m sp [] E0 ta t) := let ⟨_, _, a, F, b⟩ := M; Qif he c a F hr (b [] List.mem_cons_self) .nil Qig ha hst hpl ht
theorem qm0 {pl : Sem Bool} (M : MethOk X.prog X.w X.K X.mg X.base C n m ps sp ([] :: dss)) (he : PE X o ta) (c : Cls X.K C) (hr : Room n X.A)
  (ht : eval (.Call (.Attribute o m apos) [] [] pos) X.env = (do
   let ov ← eval o X.env
   standAt apos.atName
   let (f, first) ← holding [ov] (getMethod ov m pl)
   callWith pos f first (backTo pos (starEach [] X.env)) (backToKw pos (keywordEach [] X.env))) := by rfl) :
  PE X (.Call (.Attribute o m apos) [] [] pos) (Qjf C m sp [] E0 ta Qnc) := let ⟨_, _, a, F, b⟩ := M; Qlx he c a F hr (b [] List.mem_cons_self) .nil Qig ht
end
end LW
namespace L2
open PySem
theorem fsk {N P : List Str} {sc : Scope} (h1 : sc.kind = .function := by rfl) (h2 : sc.isCoroutine = false := by rfl) (h3 : sc.isGenerator = false := by rfl) (h4 : N.Nodup := by decide +kernel) (h5 : N.take P.length = P := by rfl) (h6 : ∀ x ∈ P, sc.names.lookup x = some .local ∨ sc.names.lookup x = some .cell := by decide +kernel) (h7 : ∀ y ∈ sc.names, y.2 ≠ .free := by decide +kernel) : Qm N P sc := ⟨h1, h2, h3, h4, h5, h6, h7⟩
theorem bsk {osc sc : Scope} {oN N : List Str} {x : Str} {fr : List Nat} (h1 : sc.kind = .function := by rfl) (h2 : ∀ y ∈ sc.names, y.2 ≠ .cell := by decide +kernel) (h3 : ∀ y ∈ sc.names, y.2 = .local → sc.names.lookup y.1 = some .local := by decide +kernel) (h4 : ∀ y ∈ sc.names, y.2 = .free → osc.names.lookup y.1 = some .cell := by decide +kernel) (h5 : sc.names.lookup x = some .local := by rfl) (h6 : (x :: N).Nodup := by decide +kernel) (h7 : fr.map (fun i => oN[i]?) = N.map some := by rfl) (h8 : ∀ y ∈ N, sc.names.lookup y = some .free := by decide +kernel) : Qz osc oN sc x N fr := ⟨h1, h2, h3, h4, h5, h6, h7, h8⟩
end L2
namespace LW
open PySem L2
def top (i : Nat) : Stmt := PySem.Challenge.pw_lastword_k28_gone_is_gone.main.body.getD i (.Pass ⟨0, 0, 0, 0⟩)
abbrev Qb1 : Stmt := top 2
theorem Qf0 : Qm ["name"] ["name"] (Qg Qb1) := fsk
abbrev Qcw : Stmt := top 3
theorem QgK : Qm ["thing"] ["thing"] (Qg Qcw) := fsk
abbrev QbS : Stmt := top 4
theorem Qbl : Qm ["thing", "new_names", "name"] ["thing", "new_names"] (Qg QbS) := fsk
abbrev QbH : Stmt := top 6
theorem Qh9 : Qm ["house", "besides"] ["house", "besides"] (Qg QbH) := fsk
abbrev Qfk : Stmt := top 7
theorem Qgk : Qm ["house", "besides", "search"] ["house", "besides"] (Qg Qfk) := fsk
abbrev Qa4 : Stmt := QF (top 8) 0
theorem QeC : Qm ["self", "house"] ["self", "house"] (Qg Qa4) := fsk
abbrev Z5 : Stmt := QF (top 8) 1
theorem Qdh : Qm ["self", "row"] ["self", "row"] (Qg Z5) := fsk
abbrev ZL : Stmt := QF (top 8) 2
theorem Zw : Qm ["self", "slot", "thing", "name"] ["self"] (Qg ZL) := fsk
abbrev ZT : Stmt := QF (top 8) 3
theorem ZJ : Qm ["self", "guard", "names", "name"] ["self"] (Qg ZT) := fsk
abbrev Zy : Stmt := QF (top 8) 4
theorem Zp : Qm ["self", "at"] ["self"] (Qg Zy) := fsk
abbrev Qal : Stmt := QF (top 8) 5
theorem Z3 : Qm ["self", "name", "holder", "kind"] ["self", "name"] (Qg Qal) := fsk
abbrev Zz : Stmt := QF (top 8) 6
theorem Zq : Qm ["self", "holder", "at", "name"] ["self", "holder"] (Qg Zz) := fsk
abbrev Zr : Stmt := QF (top 8) 7
theorem Z2 : Qm ["self", "holder", "key"] ["self", "holder"] (Qg Zr) := fsk
abbrev ZK : Stmt := QF (top 8) 8
theorem Qaz : Qm ["self", "holder", "name"] ["self", "holder"] (Qg ZK) := fsk
abbrev QdF : Stmt := top 10
theorem ZZ : Qm ["house", "besides", "held_ahead", "weak_broken", "told", "held_anew", "pairs_broken", "gone"] ["house", "besides"] (Qg QdF) := fsk
abbrev Za : Stmt := top 11
theorem Z4 : Qm ["house", "held", "weak", "broken", "name"] ["house", "held"] (Qg Za) := fsk
abbrev Qa8 : Stmt := top 12
theorem ZQ : Qm ["house", "held", "told", "guard", "name"] ["house", "held"] (Qg Qa8) := fsk
abbrev QX : Stmt := top 13
theorem ZR : Qm ["house", "held", "pairs", "broken", "name"] ["house", "held"] (Qg QX) := fsk
abbrev ZV : Stmt := top 14
theorem QaT : Qm ["house", "name", "held", "first"] ["house", "name", "held"] (Qg ZV) := fsk
abbrev ZA : Stmt := top 15
theorem QaP : Qm ["house", "held", "gone", "name"] ["house", "held"] (Qg ZA) := fsk
abbrev Q9 : Stmt := QF (top 29) 0
theorem Qfg : Qm ["self", "room", "slots"] ["self", "room", "slots"] (Qg Q9) := fsk
abbrev Qbt : Stmt := QF (top 29) 1
theorem Qff : Qm ["self", "kind", "size", "slot"] ["self", "kind", "size", "slot"] (Qg Qbt) := fsk
abbrev Qa6 : Stmt := QF (top 29) 2
theorem QeE : Qm ["self"] ["self"] (Qg Qa6) := fsk
abbrev Qau : Stmt := QF (top 29) 3
theorem Qcm : Qm ["self", "name"] ["self", "name"] (Qg Qau) := fsk
abbrev Qat : Stmt := QF (top 29) 4
theorem Qcl : Qm ["self", "name"] ["self", "name"] (Qg Qat) := fsk
abbrev QaX : Stmt := QF (top 29) 5
theorem Qc9 : Qm ["self", "name", "at", "thing"] ["self", "name", "at", "thing"] (Qg QaX) := fsk
abbrev Z8 : Stmt := QF (top 29) 6
theorem Qcb : Qm ["self", "name", "at"] ["self", "name", "at"] (Qg Z8) := fsk
abbrev Qbs : Stmt := QF (top 29) 7
theorem Qfe : Qm ["self", "name", "other", "kind", "fields"] ["self", "name", "other"] (Qg Qbs) := fsk
abbrev Qav : Stmt := QF (top 29) 8
theorem Qcn : Qm ["self", "slot", "thing"] ["self", "slot", "thing"] (Qg Qav) := fsk
abbrev Qbu : Stmt := QF (top 29) 9
theorem Qfh : Qm ["self", "slot"] ["self", "slot"] (Qg Qbu) := fsk
abbrev Z6 : Stmt := QF (top 29) 10
theorem Qca : Qm ["self", "guard", "name"] ["self", "guard", "name"] (Qg Z6) := fsk
abbrev Qa7 : Stmt := QF (top 29) 11
theorem QeF : Qm ["self", "guard", "name"] ["self", "guard", "name"] (Qg Qa7) := fsk
abbrev Qam : Stmt := QF (top 29) 13
theorem QdC : Qm ["self", "guard"] ["self", "guard"] (Qg Qam) := fsk
abbrev Qa5 : Stmt := QF (top 29) 14
theorem QeD : Qm ["self", "guard"] ["self", "guard"] (Qg Qa5) := fsk
abbrev Z7 : Stmt := QF (top 29) 15
theorem Qdi : Qm ["self", "count"] ["self", "count"] (Qg Z7) := fsk
abbrev ZU : Stmt := QF (top 29) 16
theorem Qc2 : Qm ["self", "count", "besides"] ["self", "count", "besides"] (Qg ZU) := fsk
abbrev QW : Stmt := QF (top 29) 17
theorem QaM : Qm ["self", "draft", "slot", "new_names", "name", "row"] ["self", "draft", "slot"] (Qg QW) := fsk
abbrev Qbr : Stmt := QF (top 29) 18
theorem Qfd : Qm ["self", "guard", "name"] ["self", "guard", "name"] (Qg Qbr) := fsk
abbrev Qbv : Stmt := QF (top 29) 19
theorem Qfi : Qm ["self", "name"] ["self", "name"] (Qg Qbv) := fsk
abbrev Zc : Stmt := QF (top 29) 20
theorem QaA : Qm ["self", "slot"] ["self", "slot"] (Qg Zc) := fsk
abbrev Q5 : Stmt := QF (top 29) 21
theorem Qae : Qm ["self", "guard"] ["self", "guard"] (Qg Q5) := fsk
abbrev Zh : Stmt := QF (top 29) 22
theorem QaS : Qm ["self", "name"] ["self", "name"] (Qg Zh) := fsk
abbrev Q4 : Stmt := QF (top 29) 23
theorem Q0 : Qm ["self", "thing", "name"] ["self", "thing"] (Qg Q4) := fsk
abbrev Q6 : Stmt := QF (top 29) 24
theorem Qaf : Qm ["self", "name", "at"] ["self", "name", "at"] (Qg Q6) := fsk
abbrev QeX : Stmt := top 31
theorem QaB : Qm ["house", "name", "names", "listed", "at", "current", "found"] ["house", "name"] (Qg QeX) := fsk
abbrev Qfm : Stmt := top 32
theorem Qjj : Qm ["house", "name", "other"] ["house", "name", "other"] (Qg Qfm) := fsk
abbrev Qfl : Stmt := top 33
theorem Qji : Qm ["house", "name", "other", "looks", "reached", "pairs", "at", "pair", "step"] ["house", "name", "other"] (Qg Qfl) := fsk
abbrev Qdj : Stmt := top 34
theorem Qhu : Qm ["house", "name", "slot"] ["house", "name", "slot"] (Qg Qdj) := fsk
abbrev Qec : Stmt := top 35
theorem Qia : Qm ["house", "name", "slot"] ["house", "name", "slot"] (Qg Qec) := fsk
abbrev ZB : Stmt := top 36
theorem QdE : Qm ["house", "name", "found"] ["house", "name"] (Qg ZB) := fsk
abbrev Z9 : Stmt := top 37
theorem QfX : Qm ["house", "name"] ["house", "name"] (Qg Z9) := fsk
abbrev QbG : Stmt := top 38
theorem Qfj : Qm ["house", "name", "new_names", "things"] ["house", "name", "new_names"] (Qg QbG) := fsk
abbrev QU : Stmt := top 39
theorem Zx : Qm ["house", "name", "names", "places"] ["house", "name"] (Qg QU) := fsk
abbrev Qby : Stmt := top 40
theorem Qcq : Qm ["house", "name", "names", "firsts", "taken", "places", "taken_places"] ["house", "name"] (Qg Qby) := fsk
abbrev Qcr : Stmt := top 47
theorem Qjh : Qm ["house", "name"] ["house", "name"] (Qg Qcr) := fsk
abbrev Qbb : Stmt := top 51
theorem QeG : Qm ["script", "k"] ["script", "k"] (Qg Qbb) := fsk
abbrev Qcv : Stmt := top 52
theorem QgJ : Qm ["script", "k"] ["script", "k"] (Qg Qcv) := fsk
abbrev Qbw : Stmt := top 53
theorem Qco : Qm ["script", "k", "cell"] ["script", "k"] (Qg Qbw) := fsk
abbrev QbV : Stmt := top 54
theorem Qda : Qm ["script", "k", "many", "cell"] ["script", "k", "many"] (Qg QbV) := fsk
abbrev Qaa : Stmt := top 55
theorem Zn : Qm ["script", "many", "kinds", "rows", "name", "cell", "size"] ["script", "many"] (Qg Qaa) := fsk
abbrev Qct : Stmt := top 56
theorem QdD : Qm ["script", "cell"] ["script"] (Qg Qct) := fsk
abbrev QbW : Stmt := top 57
theorem Q8 : Qm ["script", "count", "many", "slots", "k", "cell", "thing"] ["script", "count", "many"] (Qg QbW) := fsk
abbrev QbY : Stmt := top 58
theorem Zm : Qm ["kinds", "rows", "slots", "extra", "house", "name", "at", "thing", "slot"] ["kinds", "rows", "slots", "extra"] (Qg QbY) := fsk
abbrev QbU : Stmt := top 59
theorem ZM : Qm ["script", "many", "waits", "k", "cell", "name"] ["script", "many"] (Qg QbU) := fsk
abbrev Qa9 : Stmt := top 60
theorem QaN : Qm ["house", "waits", "guard", "name"] ["house", "waits"] (Qg Qa9) := fsk
abbrev QbT : Stmt := top 61
theorem QfY : Qm ["found"] ["found"] (Qg QbT) := fsk
abbrev QbX : Stmt := top 62
theorem Qdb : Qm ["found", "due", "k"] ["found", "due"] (Qg QbX) := fsk
abbrev Qcs : Stmt := top 63
theorem QgH : Qm ["found", "due"] ["found", "due"] (Qg Qcs) := fsk
abbrev Qeb : Stmt := top 64
theorem QbR : Qm ["house", "kinds", "rows", "slots", "name", "at", "thing", "slot"] ["house", "kinds", "rows", "slots"] (Qg Qeb) := fsk
abbrev Qbx : Stmt := top 65
theorem Qcp : Qm ["house", "waits", "told", "guard"] ["house", "waits", "told"] (Qg Qbx) := fsk
abbrev QaC : Stmt := top 66
theorem QaW : Qm ["house", "kinds", "rows", "name"] ["house"] (Qg QaC) := fsk
abbrev Qb0 : Stmt := top 67
theorem Qas : Qm ["e", "found"] ["e"] (Qg Qb0) := fsk
abbrev QbZ : Stmt := top 68
theorem QfZ : Qm ["house", "way", "name", "first"] ["house", "way", "name", "first"] (Qg QbZ) := fsk
abbrev Qcu : Stmt := top 69
theorem QgI : Qm ["house", "way", "name", "first"] ["house", "way", "name", "first"] (Qg Qcu) := fsk
abbrev Qba : Stmt := top 70
theorem QaO : Qm ["house", "way", "name", "first", "found", "e"] ["house", "way", "name", "first"] (Qg Qba) := fsk
abbrev ZW : Stmt := top 71
theorem Zs : Qm ["script", "many", "made", "house", "gone", "stands", "slots", "waits", "words", "k", "name", "first", "way"] ["script"] (Qg ZW) := fsk
section
variable {C : Addr}
theorem QaF (F : Fun K "check_slot" "House.check_slot" Zc f fd) (T : TX K mg C)  :
  FnOk P w K mg base CX0 (n + 1) f fd ["self", "slot"] (Qa3 C) := by
 refine F.ok QaA (by rintro _ _ _ _ ⟨_, _, _, _, rfl, _⟩; rfl) fun _ _ _ s H vs Q E hr h => ?_
 obtain ⟨p, A', S, i, rfl, hh, h0, h1, k⟩ := h
 have hu := Qu hr
 refine ⟨_, (Qe (QA (PW.pt (QeH (Qp QgN (pv 1) Qi (Qv _)) (Qcc (Qp Qjn (pv 1) (Qo Qs (by rfl) T.g_len PySem.boot_len (Qa (QB (pv 0) rfl) Qc)) (Qv _))))) (Qe QdI) Qn)), ?_⟩
 obtain ⟨ws, hs, ht⟩ := hh.sl
 refine ⟨_, rfl, _, _, rfl, rfl, _, rfl, ?_⟩
 refine Qmo (by omega) ?_
 refine ⟨_, rfl, _, rfl, p, C, A'.dx, _, _, rfl, hh.ob, T.cl, T.n_slots, QcX, A'.sl, ws, rfl, .inl (SqL.of hs), _, _, rfl, rfl, _, rfl, ?_⟩
 refine Qmo (by rw [← QG ht]; omega) ?_
 exact k
theorem Qaj (F : Fun K "check_guard" "House.check_guard" Q5 f fd) (T : TX K mg C)  :
  FnOk P w K mg base CX0 (n + 1) f fd ["self", "guard"] (Qay C) := by
 refine F.ok Qae (by rintro _ _ _ _ ⟨_, _, rfl, _⟩; rfl) fun _ _ _ s H vs Q E hr h => ?_
 obtain ⟨p, i, rfl, h0, h1, k⟩ := h
 have hu := Qu hr
 obtain ⟨tG, htG⟩ := T.g_guards
 refine ⟨_, (Qe (QA (PW.pt (QeH (Qp QgN (pv 1) Qi (Qv _)) (Qcc (Qp Qjn (pv 1) (Qac (v := .int 4) (by rfl) htG ⟨tG, rfl⟩) (Qv _))))) (Qe QdI) Qn)), ?_⟩
 refine ⟨_, rfl, _, _, rfl, rfl, _, rfl, ?_⟩
 refine Qmo (by omega) ?_
 refine ⟨_, rfl, _, _, rfl, rfl, _, rfl, ?_⟩
 refine Qmo (by omega) ?_
 exact k
theorem QaV (F : Fun K "check_box" "House.check_box" Zh f fd) (T : TX K mg C)  :
  FnOk P w K mg base CX0 (n + 1) f fd ["self", "name"] (Zl C) := by
 refine F.ok QaS (by rintro _ _ _ _ ⟨_, _, _, _, rfl, _⟩; rfl) fun _ _ _ s H vs Q E hr h => ?_
 obtain ⟨p, A', S, n, rfl, hh, hn, k⟩ := h
 have hu := Qu hr
 refine ⟨_, (Qe (QA (Qag (QdL hu (pv 1) (QB (pv 0) rfl))) (Qe QdI) Qn)), ?_⟩
 obtain ⟨b, hb, e⟩ := List.mem_map.mp hn
 obtain ⟨i, hi⟩ := List.getElem?_of_mem hb
 have hv := hh.kindAt hi
 rw [e] at hv
 refine ⟨_, rfl, _, rfl, p, C, A'.dx, _, _, rfl, hh.ob, T.cl, T.n_kinds, Qb6, A'.kd, _, rfl, DGet.k (k := Sum.inl n) hh.kd, _, rfl, ?_⟩
 rw [hv]
 exact Qbg k
theorem Qak (F : Fun K "check_field" "House.check_field" Q6 f fd) (T : TX K mg C)  :
  FnOk P w K mg base CX0 (n + 1) f fd ["self", "name", "at"] (Qbk C) := by
 refine F.ok Qaf (by rintro _ _ _ _ ⟨_, _, _, _, _, _, rfl, _⟩; rfl) fun _ _ _ s H vs Q E hr h => ?_
 obtain ⟨p, A', S, i, b, at_, rfl, hh, hi, h0, h1, k⟩ := h
 have hu := Qu hr
 refine ⟨_, (Qe (QA (PW.pt (QeH (Qp QgN (pv 2) Qi (Qv _)) (Qcc (Qp Qjn (pv 2) (Qo Qs (by rfl) T.g_len PySem.boot_len (Qa (Qao hu (QB (pv 0) rfl) (pv 1) (fun _ _ => rfl)) Qc)) (Qv _))))) (Qe QdI) Qn)), ?_⟩
 obtain ⟨a, ws, ha, hw, ht, hv⟩ := hh.rowAt hi
 refine ⟨_, rfl, _, _, rfl, rfl, _, rfl, ?_⟩
 refine Qmo (by omega) ?_
 refine ⟨_, rfl, _, rfl, p, C, A'.dx, _, _, rfl, hh.ob, T.cl, T.n_fields, Qbe, _, rfl, A'.fd, .ref a, rfl, ?_, a, ws, rfl, .inl (SqL.of hw), _, _, rfl, rfl, _, rfl, ?_⟩
 ·rw [← hv]; exact DGet.k (k := Sum.inl b.name) hh.fd
 refine Qmo (by rw [← QG ht]; omega) ?_
 exact k
theorem QeL (F : Fun K "names" "House.names" Qa6 f fd) (T : TX K mg C)  :
  FnOk P w K mg base CX0 (n + 1) f fd ["self"] (Qea C) := by
 refine F.ok QeE (by rintro _ _ _ _ ⟨_, _, _, rfl, _⟩; rfl) fun _ _ _ s H vs Q E hr h => ?_
 obtain ⟨p, A', S, rfl, hh, h64, k⟩ := h
 have hu := Qu hr
 refine ⟨_, (Qe (Qq (Qo (QaI hr.hd) (by rfl) T.g_sorted PyProof.Rows.boot_sorted (Qa (QB (pv 0) rfl) Qc)))), ?_⟩
 refine ⟨_, rfl, p, C, A'.dx, _, _, rfl, hh.ob, T.cl, T.n_kinds, Qb6, A'.kd, _, names S, rfl, hh.kd, Zi _, by simpa [names] using h64, fun l ns' hl hp hs => ?_⟩
 rw [QcU hp hs hh.asc]
 exact k l hl
theorem Qft (F : Fun K "kind" "House.kind" Qau f fd) (T : TX K mg C) (M1_ : MethOk P w K mg base C n "check_box" ["self", "name"] (Zl C) [[]]) :
  FnOk P w K mg base CX0 (n + 1) f fd ["self", "name"] (Qe6 C) := by
 refine F.ok Qcm (by rintro _ _ _ _ ⟨_, _, _, _, _, rfl, _⟩; rfl) fun _ _ _ s H vs Q E hr h => ?_
 obtain ⟨p, A', S, i, b, rfl, hh, hi, k⟩ := h
 have hu := Qu hr
 refine ⟨_, (Qb (Qk (qm M1_ (pv 0) T.cl hr (Qa (pv 1) Qc)))
  (Qe (Qq (Qao hu (QB (pv 0) rfl) (pv 1) (fun _ _ => rfl))))), ?_⟩
 refine ⟨_, rfl, p, A'.dx, _, rfl, hh.ob, Qj, _, rfl, p, A', S, b.name, rfl, hh, Qaw hi, ?_⟩
 refine ⟨_, rfl, p, C, A'.dx, _, _, rfl, hh.ob, T.cl, T.n_kinds, Qb6, _, rfl, A'.kd, .str b.kind, rfl, ?_, k⟩
 rw [← hh.kindAt hi]
 exact DGet.k (k := Sum.inl b.name) hh.kd
theorem Qfr (F : Fun K "size" "House.size" Qat f fd) (T : TX K mg C) (M1_ : MethOk P w K mg base C n "check_box" ["self", "name"] (Zl C) [[]]) :
  FnOk P w K mg base CX0 (n + 1) f fd ["self", "name"] (Qhl C) := by
 refine F.ok Qcl (by rintro _ _ _ _ ⟨_, _, _, _, _, rfl, _⟩; rfl) fun _ _ _ s H vs Q E hr h => ?_
 obtain ⟨p, A', S, i, b, rfl, hh, hi, k⟩ := h
 have hu := Qu hr
 refine ⟨_, (Qb (Qk (qm M1_ (pv 0) T.cl hr (Qa (pv 1) Qc)))
  (Qe (Qq (Qo Qs (by rfl) T.g_len PySem.boot_len (Qa (Qao hu (QB (pv 0) rfl) (pv 1) (fun _ _ => rfl)) Qc))))), ?_⟩
 obtain ⟨a, ws, ha, hw, ht, hv⟩ := hh.rowAt hi
 refine ⟨_, rfl, p, A'.dx, _, rfl, hh.ob, Qj, _, rfl, p, A', S, b.name, rfl, hh, Qaw hi, ?_⟩
 refine ⟨_, rfl, p, C, A'.dx, _, _, rfl, hh.ob, T.cl, T.n_fields, Qbe, _, rfl, A'.fd, .ref a, rfl, ?_, a, ws, rfl, .inl (SqL.of hw), ?_⟩
 ·rw [← hv]; exact DGet.k (k := Sum.inl b.name) hh.fd
 ·rw [← QG ht]; exact k
theorem QeM (F : Fun K "field" "House.field" Z8 f fd) (T : TX K mg C) (M1_ : MethOk P w K mg base C n "check_box" ["self", "name"] (Zl C) [[]])
  (M2_ : MethOk P w K mg base C n "check_field" ["self", "name", "at"] (Qbk C) [[]]) :
  FnOk P w K mg base CX0 (n + 1) f fd ["self", "name", "at"] (Qcj C) := by
 refine F.ok Qcb (by rintro _ _ _ _ ⟨_, _, _, _, _, _, _, rfl, _⟩; rfl) fun _ _ _ s H vs Q E hr h => ?_
 obtain ⟨p, A', S, i, b, j, t, rfl, hh, hi, hj, k⟩ := h
 have hu := Qu hr
 refine ⟨_, (Qb (Qk (qm M1_ (pv 0) T.cl hr (Qa (pv 1) Qc)))
  (Qb (Qk (qm M2_ (pv 0) T.cl hr (Qa (pv 1) (Qa (pv 2) Qc))))
  (Qe (Qq (Zf QN (Qao hu (QB (pv 0) rfl) (pv 1) (fun _ _ => rfl)) (pv 2) (fun _ _ => rfl)))))), ?_⟩
 obtain ⟨a, ws, ha, hw, ht, hv⟩ := hh.rowAt hi
 obtain ⟨v, hv2, tv⟩ := Zt ht hj
 have hlt := (List.getElem?_eq_some_iff.mp hj).1
 refine ⟨_, rfl, p, A'.dx, _, rfl, hh.ob, Qj, _, rfl, p, A', S, b.name, rfl, hh, Qaw hi, ?_⟩
 refine ⟨_, rfl, p, A'.dx, _, rfl, hh.ob, Qj, _, rfl, _, rfl, p, A', S, i, b, j, rfl, hh, hi, by omega, by omega, ?_⟩
 refine ⟨_, rfl, p, C, A'.dx, _, _, rfl, hh.ob, T.cl, T.n_fields, Qbe, _, rfl, A'.fd, .ref a, rfl, ?_, _, rfl, a, ws, j, v, rfl, rfl, SqL.of hw, QZ hv2, k v tv⟩
 rw [← hv]; exact DGet.k (k := Sum.inl b.name) hh.fd
theorem Qfw (F : Fun K "held" "House.held" Qbu f fd) (T : TX K mg C) (M1_ : MethOk P w K mg base C n "check_slot" ["self", "slot"] (Qa3 C) [[]]) :
  FnOk P w K mg base CX0 (n + 1) f fd ["self", "slot"] (Qka C) := by
 refine F.ok Qfh (by rintro _ _ _ _ ⟨_, _, _, _, _, rfl, _⟩; rfl) fun _ _ _ s H vs Q E hr h => ?_
 obtain ⟨p, A', S, j, t, rfl, hh, hj, k⟩ := h
 have hu := Qu hr
 refine ⟨_, (Qb (Qk (qm M1_ (pv 0) T.cl hr (Qa (pv 1) Qc)))
  (Qe (Qq (Zf QN (QB (pv 0) rfl) (pv 1) (fun _ _ => rfl))))), ?_⟩
 obtain ⟨ws, hw, ht⟩ := hh.sl
 obtain ⟨v, hv2, tv⟩ := Zt ht hj
 have hlt := (List.getElem?_eq_some_iff.mp hj).1
 refine ⟨_, rfl, p, A'.dx, _, rfl, hh.ob, Qj, _, rfl, p, A', S, j, rfl, hh, by omega, by omega, ?_⟩
 exact ⟨_, rfl, p, C, A'.dx, _, _, rfl, hh.ob, T.cl, T.n_slots, QcX, _, rfl, A'.sl, ws, j, v, rfl, rfl, SqL.of hw, QZ hv2, k v tv⟩
theorem QdN (F : Fun K "waiting" "House.waiting" Qam f fd) (T : TX K mg C) (M1_ : MethOk P w K mg base C n "check_guard" ["self", "guard"] (Qay C) [[]]) :
  FnOk P w K mg base CX0 (n + 1) f fd ["self", "guard"] (Qdu C) := by
 refine F.ok QdC (by rintro _ _ _ _ ⟨_, _, _, _, _, rfl, _⟩; rfl) fun _ _ _ s H vs Q E hr h => ?_
 obtain ⟨p, A', S, g, ns, rfl, hh, hg, hq, k⟩ := h
 have hu := Qu hr
 refine ⟨_, (Qb (Qk (qm M1_ (pv 0) T.cl hr (Qa (pv 1) Qc)))
  (Qe (Qq (QdJ Qez (by rfl) T.g_list PyProof.Rows.boot_list (Qa (Zf QN (QB (pv 0) rfl) (pv 1) (fun _ _ => rfl)) Qc))))), ?_⟩
 obtain ⟨a, ha, hi⟩ := Zt hh.ql hq
 refine ⟨_, rfl, p, A'.dx, _, rfl, hh.ob, Qj, _, rfl, p, g, rfl, by omega, by omega, ?_⟩
 refine ⟨_, rfl, p, C, A'.dx, _, _, rfl, hh.ob, T.cl, T.n_queues, QdY, _, rfl, A'.qs, _, g, .ref a, rfl, rfl, SqL.of hh.qs, QZ (by rw [List.getElem?_map, ha]; rfl), a, _, rfl, .inl (SqL.of hi), k⟩
theorem Qge (F : Fun K "box_thing" "box_thing" Qb1 f fd) (T : TX K mg C)  :
  FnOk P w K mg base CX0 (n + 1) f fd ["name"] (QcP) := by
 refine F.ok Qf0 (by rintro _ _ _ _ ⟨_, rfl, _⟩; rfl) fun _ _ _ s H vs Q E hr h => ?_
 obtain ⟨n, rfl, k⟩ := h
 have hu := Qu hr
 refine ⟨_, (Qe (Qq (QaE (Qa Qab (Qa (pv 0) Qc))))), ?_⟩
 exact ⟨_, rfl, zl, fun a ha => k a ha⟩
theorem QgV (F : Fun K "box_name" "box_name" Qcw f fd) (T : TX K mg C)  :
  FnOk P w K mg base CX0 (n + 1) f fd ["thing"] (Zv) := by
 refine F.ok QgK (by rintro _ _ _ _ ⟨_, _, rfl, _⟩; rfl) fun _ _ _ s H vs Q E hr h => ?_
 obtain ⟨v, t, rfl, tv, k⟩ := h
 have hu := Qu hr
 refine ⟨_, (Qb (QA (QaD (Qo Qb8 (by rfl) T.g_isi PyProof.Rows.boot_isinstance (Qa (pv 0) (Qa (QcB (v := .ty "tuple") (by rfl) T.g_tuple PyProof.Rows.boot_tuple rfl) Qc)))) (Qe (Qq (Zf Qbp (pv 0) Qi (fun _ _ => rfl)))) Qn)
  (Qe (Qq Qdc))), ?_⟩
 cases t with
 | non =>
  cases (show v = .non from tv)
  exact ⟨_, rfl, _, "tuple", _, false, rfl, .non, sub_nt K, _, rfl, Qbg k⟩
 | num i =>
  cases (show v = .int i from tv)
  exact ⟨_, rfl, _, "tuple", _, false, rfl, .int i, sub_it K, _, rfl, Qbg k⟩
 | box n =>
  obtain ⟨a, rfl, q⟩ := tv
  exact ⟨_, rfl, _, "tuple", _, true, rfl, .tup q, QcV _ _, _, rfl, QaK ⟨_, rfl, a, _, 1, .int n, rfl, rfl, SqT.of q, rfl, k⟩⟩
theorem QhB (F : Fun K "renamed" "renamed" QbS f fd) (T : TX K mg C) (D1_ : DefOk P w K mg base n "box_name" ["thing"] (Zv) [[]])
  (D2_ : DefOk P w K mg base n "box_thing" ["name"] (QcP) [[]]) :
  FnOk P w K mg base CX0 (n + 1) f fd ["thing", "new_names"] (Qhm) := by
 refine F.ok Qbl (by rintro _ _ _ _ ⟨_, _, _, _, rfl, _⟩; rfl) fun _ _ _ s H vs Q E hr h => ?_
 obtain ⟨v, t, a, ns, rfl, tv, ha, k⟩ := h
 have hu := Qu hr
 refine ⟨_, (Qb (Qw (i := 2) Qbl.nd rfl (Or.inl rfl) (qc D1_ hr (Qa (pv 0) Qc)))
  (Qb (QA (Qag (Qhz (pv 2))) (Qe (Qq (pv 0))) Qn)
  (Qe (Qq (qc D2_ hr (Qa (Zf QN (pv 1) (pv 2) (fun _ _ => rfl)) Qc)))))), ?_⟩
 refine ⟨_, rfl, v, t, rfl, tv, ?_⟩
 cases t with
 | non => exact ⟨_, rfl, _, rfl, QaK ⟨_, rfl, k⟩⟩
 | num i => exact ⟨_, rfl, _, rfl, QaK ⟨_, rfl, k⟩⟩
 | box n =>
  obtain ⟨j, m, rfl, hj, k⟩ := k
  exact ⟨_, rfl, _, rfl, Qbg ⟨_, rfl, _, rfl, a, _, j, .int m, rfl, rfl, SqL.of ha, QZ (by rw [List.getElem?_map, hj]; rfl), m, rfl, k⟩⟩
theorem Qdo (F : Fun K "has_room" "House.has_room" Z7 f fd) (T : TX K mg C)  :
  FnOk P w K mg base CX0 (n + 1) f fd ["self", "count"] (Qe7 C) := by
 refine F.ok Qdi (by rintro _ _ _ _ ⟨_, _, _, _, rfl, _⟩; rfl) fun _ _ _ s H vs Q E hr h => ?_
 obtain ⟨p, A', S, n, rfl, hh, k⟩ := h
 have hu := Qu hr
 refine ⟨_, (Qe (Qq (Qee op_le (QE Qah (Qo QhV (by rfl) T.g_len PySem.boot_len (Qa (QB (pv 0) rfl) Qc)) (pv 1)) (QB (pv 0) rfl) (Qv _)))), ?_⟩
 refine ⟨_, rfl, p, C, A'.dx, _, _, rfl, hh.ob, T.cl, T.n_kinds, Qb6, A'.kd, _, rfl, hh.kd, _, rfl, _, _, rfl, rfl, _, rfl, p, C, A'.dx, _, _, rfl, hh.ob, T.cl, T.n_room, Qm0, _, _, rfl, rfl, ?_⟩
 have e : (Qx S.boxes).length = S.boxes.length := by simp [Qx]
 rw [e]
 exact k
theorem Qc4 {ds : List Value} (F : FunD K "make_room" "House.make_room" ZU f fd ds) (T : TX K mg C) (M1_ : MethOk P w K mg base C n "has_room" ["self", "count"] (Qe7 C) [[]]) :
  FnOk P w K mg base CX0 (n + 1) f fd ["self", "count", "besides"] (QbO C) := by
 refine F.ok Qc2 (by rintro _ _ _ _ ⟨_, _, _, _, _, rfl, _⟩; rfl) fun _ _ _ s H vs Q E hr h => ?_
 obtain ⟨p, A', S, n, v, rfl, hh, hn, k⟩ := h
 have hu := Qu hr
 refine ⟨_, (Qe (QA (Qbm (QaD (qm M1_ (pv 0) T.cl hr (Qa (pv 1) Qc)))) QP Qn)), ?_⟩
 refine ⟨_, rfl, p, A'.dx, _, rfl, hh.ob, Qj, _, rfl, p, A', S, n, rfl, hh, _, rfl, ?_⟩
 rw [decide_eq_true hn]
 exact Qbg k
theorem Qd1 : Qz (Qg QW) ["self", "draft", "slot", "new_names", "name", "row"] (QD ((QaJ (QeB (Qr QW) 1)))) "place" ["self"] [0] :=
 bsk
theorem Qd0 : Qz (Qg QW) ["self", "draft", "slot", "new_names", "name", "row"] (QD ((QaJ (QeB (Qiu (QeB (Qr QW) 2)) 1)))) "thing" ["new_names"] [3] :=
 bsk
theorem QeN (F : Fun K "build" "House.build" QW f fd) (T : TX K mg C) (gz : mg "zip" = none) (M1_ : MethOk P w K mg base C n "has_room" ["self", "count"] (Qe7 C) [[]])
  (D2_ : DefOk P w K mg base n "renamed" ["thing", "new_names"] (Qhm) [[]])
  (D3_ : DefOk P w K mg base n "box_thing" ["name"] (QcP) [[]]) :
  FnOk P w K mg base CX0 (n + 1) f fd ["self", "draft", "slot"] (QiM C) := by
 refine F.ok QaM (by rintro _ _ _ _ ⟨_, _, _, _, _, _, _, _, _, rfl, _⟩; rfl) fun _ _ _ s H vs Q E hr h => ?_
 obtain ⟨p, A', S, kind, n, slot, ad, at_, al, rfl, hh, had, hat, hal, hn, hb, hroom, hs, k⟩ := h
 have hu := Qu hr
 refine ⟨_, (Qb (QA (Qbm (QaD (qm M1_ (pv 0) T.cl hr (Qa (Qo Qs (by rfl) T.g_len PySem.boot_len (Qa (pv 1) Qc)) Qc)))) QP Qn)
  (Qb (Qw (i := 3) QaM.nd rfl (Or.inr rfl) (Qbd Qd1 rfl (QL (by rfl) T.g_range (Qa (Qo Qs (by rfl) T.g_len PySem.boot_len (Qa (pv 1) Qc)) Qc)) (fun _ _ _ _ => Zd) (fun _ _ _ _ => (QE Qah (QE Qah (QmR (K' := K) rfl (pv 1) rfl) Qi) (pv 0)))))
  (Qb (Q7 PassesOwn.never rfl (pi_zip (by rfl) gz (Qa (pv 3) (Qa (pv 1) Qc))) (QcA rfl QaM.nd (i := 4) (j := 5) rfl rfl (Or.inl rfl) (Or.inl rfl))
  (Qb (Qcz hu (QB (pv 0) rfl) (pv 4) (Zf Qbp (pv 5) Qi (fun _ _ => rfl)) rfl)
  (Qe (Qcz hu (QB (pv 0) rfl) (pv 4) (Qbd Qd0 rfl (QQ (Zf Qbp (pv 5) Qi (fun _ _ => rfl))) (fun _ _ _ _ => Zd) (fun _ _ _ _ => (qc D2_ hr (Qa (pv 0) (Qa (pv 1) Qc))))) rfl))))
  (Qb (Qcd (pv 0) (Zf QN (pv 3) (pe_un un_neg Qi) (fun _ _ => rfl)) rfl)
  (Qb (Qkm (qc D3_ hr (Qa (Zf QN (pv 3) Qi (fun _ _ => rfl)) Qc)) (Qkr (QB (pv 0) rfl) (pv 2) QgG))
  (Qe (Qq (Zf QN (pv 3) Qi (fun _ _ => rfl))))))))), ?_⟩
 have ne1 : p ≠ A'.kd := QI hh.ob hh.kd (by intro z; cases z)
 have ne2 : p ≠ A'.fd := QI hh.ob hh.fd (by intro z; cases z)
 have neL : ∀ b ∈ A'.lists, b ≠ p ∧ b ≠ A'.kd ∧ b ≠ A'.fd := fun b hb => by
  obtain ⟨vs, q⟩ := hh.isL b hb
  exact ⟨QI q hh.ob (by intro z; cases z), QI q hh.kd (by intro z; cases z), QI q hh.fd (by intro z; cases z)⟩
 have len : (QbL A' S).length < 1000 := by show 7 < 1000; decide
 have kl : (Qx S.boxes).length = S.boxes.length := by simp [Qx]
 have fl : (Qt S.boxes A'.fl).length = S.boxes.length := by simp [Qt, QG hh.fl]
 refine ⟨_, rfl, p, A'.dx, _, rfl, hh.ob, Qj, _, rfl, ad, _, rfl, .inl (SqL.of had), p, A', S, _, rfl, hh, _, rfl, ?_⟩
 rw [decide_eq_true (by show (S.boxes.length : Int) + (([V.ref at_].length : Nat) : Int) ≤ S.room; simp; omega)]
 refine Qbg ?_
 refine ⟨_, rfl, ad, _, rfl, .inl (SqL.of had), 1, rfl, by decide, by decide, ?_⟩
 refine Qaq (lo := 0) (n := 1) (fun i ys H' => H' = H ∧ ys = (QK (S.last + 1) i).map V.int) ⟨rfl, rfl⟩ ?_ (ZO (by omega)) ?_ ?_
 ·rintro i ys H' ⟨_, rfl⟩
  rw [List.length_map, QJ]; exact Nat.le_refl _
 ·rintro i ys H' hi ⟨rfl, rfl⟩
  dsimp only [Qc0]
  refine QaK ⟨_, rfl, p, C, A'.dx, _, _, rfl, hh.ob, T.cl, T.n_last, Qm1, _, _, rfl, rfl, _, rfl, _, _, rfl, rfl, rfl, ?_⟩
  rw [Qdr, List.map_append]
  show _ = _ ++ [V.int (S.last + 1 + (i : Int))]
  rw [Int.zero_add]
 ·rintro ys H' ⟨rfl, rfl⟩ ln hln
  have e1 : (QK (S.last + 1) 1).map V.int = [V.int (S.last + 1)] := by simp [QK]
  rw [e1]
  have d1 : (upd H' ln (.lst [V.int (S.last + 1)])) ln = some (.lst [V.int (S.last + 1)]) := Qd
  generalize eH1 : upd H' ln (.lst [V.int (S.last + 1)]) = H1 at d1
  have s1 : Same H' H1 := by rw [← eH1]; exact Same.new hln
  have fresh : ¬ (S.last + 1) ∈ S.boxes.map (·.name) := fun m => by
   obtain ⟨b, hb, e⟩ := List.mem_map.mp m
   have := hh.top b hb
   omega
  have pk : Qci (Qx S.boxes) (Sum.inl (S.last + 1) : Key) (V.str kind) = Qx S.boxes ++ [((Sum.inl (S.last + 1) : Key), V.str kind)] := QcS _ (hh.noName fresh)
  have pf : ∀ l, Qci (Qt S.boxes A'.fl) (Sum.inl (S.last + 1) : Key) (V.ref l) = Qt S.boxes A'.fl ++ [((Sum.inl (S.last + 1) : Key), V.ref l)] := fun l => QcS _ (by
   refine QcM ?_
   rw [QaH (QG hh.fl)]
   intro m
   obtain ⟨b, hb, q⟩ := List.mem_map.mp m
   rw [Sum.inl.inj q] at hb
   exact fresh hb)
  refine ⟨_, rfl, _, rfl, ln, ad, _, _, rfl, d1, s1 _ _ had, ?_⟩
  refine Qm3 (xs := [V.int (S.last + 1)]) (ys := [V.ref at_]) (fun i σ H2 => ∃ v_name v_row, σ = [some (.ref p), some (.ref ad), some (.int slot), some (.ref ln), v_name, v_row] ∧ H2 ln = some (.lst [V.int (S.last + 1)]) ∧ H2 ad = some (.lst [V.ref at_]) ∧
   ((i = 0 ∧ H2 = H1) ∨ (i = 1 ∧ ∃ l, H' l = none ∧ H2 p = some (.ins C A'.dx (QbL A' S)) ∧ H2 A'.kd = some (.dK (Qx S.boxes ++ [((Sum.inl (S.last + 1) : Key), V.str kind)])) ∧
    H2 A'.fd = some (.dK (Qt S.boxes A'.fl ++ [((Sum.inl (S.last + 1) : Key), V.ref l)])) ∧ H2 l = some (.lst (List.replicate n .non)) ∧ ∀ b o, H' b = some o → b ≠ A'.kd → b ≠ A'.fd → H2 b = some o))) rfl
   ⟨_, _, rfl, d1, s1 _ _ had, .inl ⟨rfl, rfl⟩⟩ (fun i σ H2 _ ⟨_, _, _, a1, a2, _⟩ => ⟨a1, a2⟩) ?_ ?_
  ·rintro i x y σ H2 pp hx hy ⟨v1, v2, rfl, a1, a2, ⟨rfl, rfl⟩ | ⟨rfl, _⟩⟩ hpp
   ·cases hx
    cases hy
    refine ⟨pp, _, _, rfl, Qd, ?_⟩
    have s2 : Same H' (upd H2 pp (.tup [V.int (S.last + 1), V.ref at_])) := s1.trans (Same.new hpp)
    have f2 : (upd H2 pp (.tup [V.int (S.last + 1), V.ref at_])) ln = some (.lst [V.int (S.last + 1)]) := Zk d1 hpp
    generalize upd H2 pp (.tup [V.int (S.last + 1), V.ref at_]) = H3 at s2 f2 ⊢
    have hh3 := hh.same s2
    refine ⟨_, rfl, at_, _, 0, _, rfl, rfl, SqT.of (s2 _ _ hat), rfl, _, rfl, p, C, A'.dx, _, _, rfl, hh3.ob, T.cl, T.n_kinds, Qb6, _, rfl, A'.kd, _, rfl, DPut.k (k := Sum.inl (S.last + 1)) hh3.kd (QO (by omega)), ?_⟩
    rw [pk]
    have k4 : ∀ b o, H3 b = some o → b ≠ A'.kd → (upd H3 A'.kd (.dK (Qx S.boxes ++ [((Sum.inl (S.last + 1) : Key), V.str kind)]))) b = some o := fun b o q nb => by rw [Qh nb]; exact q
    have e4 : (upd H3 A'.kd (.dK (Qx S.boxes ++ [((Sum.inl (S.last + 1) : Key), V.str kind)]))) A'.kd = some (.dK (Qx S.boxes ++ [((Sum.inl (S.last + 1) : Key), V.str kind)])) := Qd
    have u4 : ∀ b, (upd H3 A'.kd (.dK (Qx S.boxes ++ [((Sum.inl (S.last + 1) : Key), V.str kind)]))) b = none → H3 b = none := fun b z => QaQ z
    generalize upd H3 A'.kd (.dK (Qx S.boxes ++ [((Sum.inl (S.last + 1) : Key), V.str kind)])) = H4 at k4 e4 u4 ⊢
    have hat4 := k4 _ _ (s2 _ _ hat) (QI (s2 _ _ hat) hh3.kd (by intro z; cases z))
    have hal4 := k4 _ _ (s2 _ _ hal) (QI (s2 _ _ hal) hh3.kd (by intro z; cases z))
    have hln4 := k4 _ _ f2 (QI f2 hh3.kd (by intro z; cases z))
    have had4 := k4 _ _ (s2 _ _ had) (QI (s2 _ _ had) hh3.kd (by intro z; cases z))
    have hp4 := k4 _ _ hh3.ob ne1
    have hf4 := k4 _ _ hh3.fd hh3.kf.symm
    refine ⟨_, rfl, at_, _, 1, _, rfl, rfl, SqT.of hat4, rfl, al, rfl, ⟨_, SqL.of hal4⟩, ?_⟩
    refine ZE (xs := List.replicate n V.non) (fun j ys H5 => H5 = H4 ∧ ys = List.replicate j V.non) ⟨rfl, rfl⟩ ?_ (ZO (by simp; omega)) ?_ ?_ ?_
    ·rintro j ys H5 ⟨_, rfl⟩
     simp
    ·rintro j ys H5 _ ⟨rfl, _⟩
     exact SqL.of hal4
    ·rintro j x ys H5 hx ⟨rfl, rfl⟩
     dsimp only [Qc0]
     have ex : x = .non := List.eq_of_mem_replicate (List.mem_of_getElem? hx)
     subst ex
     refine QaK ⟨_, rfl, _, rfl, V.non, LW.T.non, ln, [S.last + 1], rfl, rfl, hln4, rfl, ?_⟩
     rw [List.replicate_succ']
    ·rintro ys H5 ⟨rfl, rfl⟩ l hl
     rw [List.length_replicate]
     have nl := s2.free (u4 l hl)
     have lf : l ≠ A'.fd := (Qf hh.fd nl).symm
     refine ⟨_, rfl, p, C, A'.dx, _, _, rfl, Zk hp4 hl, T.cl, T.n_fields, Qbe, _, rfl, A'.fd, _, rfl, DPut.k (kvs := Qt S.boxes A'.fl) (k := Sum.inl (S.last + 1)) (Zk hf4 hl) (QO (by omega)), ?_⟩
     rw [pf]
     have up : ∀ {b o}, H5 b = some o → b ≠ A'.fd → (upd (upd H5 l (.lst (List.replicate n V.non))) A'.fd (.dK (Qt S.boxes A'.fl ++ [((Sum.inl (S.last + 1) : Key), V.ref l)]))) b = some o := fun q nb => by rw [Qh nb]; exact Zk q hl
     refine ⟨_, _, rfl, up hln4 (QI hln4 hf4 (by intro z; cases z)), up had4 (QI had4 hf4 (by intro z; cases z)), .inr ⟨rfl, l, nl, up hp4 ne2, up e4 hh.kf, Qd, by rw [Qh lf]; exact Qd, fun b o q n1 n2 => up (k4 _ _ (s2 _ _ q) n1) n2⟩⟩
   ·simp at hx
  ·rintro σ H2 ⟨v1, v2, rfl, a1, a2, ⟨z, _⟩ | ⟨_, l, nl, b1, b2, b3, b4, b5⟩⟩
   ·cases z
   refine ⟨_, rfl, _, rfl, ln, _, -1, _, rfl, rfl, SqL.of a1, rfl, _, rfl, p, C, A'.dx, _, rfl, b1, T.cl, T.n_last, len, ?_⟩
   rw [QkU]
   have nlp : l ≠ p := (Qf hh.ob nl).symm
   have nll : ∀ b ∈ A'.lists, b ≠ l := fun b hb => by
    obtain ⟨vs, q⟩ := hh.isL b hb
    exact Qf q nl
   have hh3 : HouseAt C (upd H2 p (.ins C A'.dx (QbL A' { S with last := S.last + 1 }))) p { A' with fl := A'.fl ++ [l] } (S.built kind n) := by
    refine hh.built (l := l) Qd (by rw [Qh ne1.symm]; exact b2) (by rw [Qh ne2.symm]; exact b3) (by rw [Qh nlp]; exact b4) (fun z => nll l z rfl) (fun b hb => ?_) fun b xs q => ?_
    ·obtain ⟨a1, a2, a3⟩ := neL b hb
     obtain ⟨vs, q⟩ := hh.isL b hb
     rw [Qh a1, b5 _ _ q a2 a3, q]
    ·rw [Qh (QI q hh.ob (by intro z; cases z))]
     exact b5 _ _ q (QI q hh.kd (by intro z; cases z)) (QI q hh.fd (by intro z; cases z))
   have a3 : (upd H2 p (.ins C A'.dx (QbL A' { S with last := S.last + 1 }))) ln = some (.lst [V.int (S.last + 1)]) := by rw [Qh (QI a1 b1 (by intro z; cases z))]; exact a1
   have b6 : ∀ b o, H' b = some o → b ≠ p → b ≠ A'.kd → b ≠ A'.fd → (upd H2 p (.ins C A'.dx (QbL A' { S with last := S.last + 1 }))) b = some o := fun b o q n0 n1 n2 => by rw [Qh n0]; exact b5 b o q n1 n2
   generalize upd H2 p (.ins C A'.dx (QbL A' { S with last := S.last + 1 })) = H3 at hh3 a3 b6 ⊢
   refine ⟨_, rfl, ln, _, 0, _, rfl, rfl, SqL.of a3, rfl, S.last + 1, rfl, fun a ha => ?_⟩
   have hh4 := hh3.new (o := .tup [.str "box", .int (S.last + 1)]) ha
   obtain ⟨ws, hw, ht⟩ := hh4.sl
   have hl : ws.length = S.slots.length := (QG ht).symm
   refine ⟨_, rfl, p, C, A'.dx, _, _, rfl, hh4.ob, T.cl, T.n_slots, QcX, _, rfl, A'.sl, ws, slot, slot, rfl, rfl, hw, Qis (by omega), ?_⟩
   have nls : ln ≠ A'.sl := fun e => by
    obtain ⟨vs, q⟩ := hh.isL A'.sl (by simp [HA.lists])
    rw [← e, hln] at q; cases q
   refine ⟨_, rfl, ln, _, 0, _, rfl, rfl, SqL.of (by rw [Qh nls]; exact Zk a3 ha), rfl, ?_⟩
   have hh5 := hh4.setSlot (j := slot) (t := .box (S.last + 1)) (v := .ref a) hw ht ⟨a, rfl, Qd⟩
   refine k { A' with fl := A'.fl ++ [l] } _ hh5 (fun b o q nb => ?_) (fun b xs q => ?_) (fun b hb => ?_)
   ·have nb : b ≠ p ∧ b ≠ A'.kd ∧ b ≠ A'.fd ∧ b ≠ A'.sl := by simp [HA.foot, HA.lists] at nb; exact ⟨nb.1, nb.2.1, nb.2.2.1, nb.2.2.2.1⟩
    rw [Qh nb.2.2.2]
    exact Zk (b6 b o q nb.1 nb.2.1 nb.2.2.1) ha
   ·have q3 := b6 b _ q (QI q hh.ob (by intro z; cases z)) (QI q hh.kd (by intro z; cases z)) (QI q hh.fd (by intro z; cases z))
    have q4 := Zk (o := .tup [.str "box", .int (S.last + 1)]) q3 ha
    rw [Qh (QI q4 hw (by intro z; cases z))]
    exact q4
   ·have hb : b = l ∨ b ∈ A'.foot p := by
     simp only [HA.foot, HA.lists, List.mem_cons, List.mem_append, List.not_mem_nil, or_false] at hb ⊢
     rcases hb with h | h | h | h | h | h | (h | h) | h | h <;> simp [h]
    rcases hb with e | e
    ·right; rw [e]; exact nl
    ·exact .inl e
theorem Qfs {ds : List Value} (F : FunD K "make" "House.make" Qbt f fd ds) (T : TX K mg C) {aF : Addr} (hF : mg "FIXED_SIZES" = some (.ref aF)) (KD : QlY P w K aF QlS) (M2_ : MethOk P w K mg base C n "check_slot" ["self", "slot"] (Qa3 C) [[]])
  (M1_ : MethOk P w K mg base C n "make_room" ["self", "count", "besides"] (QbO C) [[], [.none]])
  (M3_ : MethOk P w K mg base C n "build" ["self", "draft", "slot"] (QiM C) [[]]) :
  FnOk P w K mg base CX0 (n + 1) f fd ["self", "kind", "size", "slot"] (Qj6 C) := by
 obtain ⟨f1_, fd1_, m1_, G1_, b1_⟩ := M1_
 refine F.ok Qff (by rintro _ _ _ _ ⟨_, _, _, _, _, _, rfl, _⟩; rfl) fun _ _ _ s H vs Q E hr h => ?_
 obtain ⟨p, A', S, kind, size, slot, rfl, hh, h0, h1, hb, hroom, hs, k⟩ := h
 have hu := Qu hr
 refine ⟨_, (Qb (Qk (qm M2_ (pv 0) T.cl hr (Qa (pv 3) Qc)))
  (Qb (Qk (Qif (pv 0) T.cl m1_ G1_ hr (b1_ [.none] (by simp)) Ql0 Qig (Qa Qi Qc)))
  (Qe (Qq (qm M3_ (pv 0) T.cl hr (Qa (Zu (Qa (QaE (Qa (pv 1) (Qa (QE Qmh (Zu (Qa Qdc Qc)) (Qly KD (by rfl) hF (pv 1) (pv 2) ⟨rfl, rfl, rfl, rfl⟩)) Qc))) Qc)) (Qa (pv 3) Qc))))))), ?_⟩
 refine ⟨_, rfl, p, A'.dx, _, rfl, hh.ob, Qj, _, rfl, p, A', S, slot, rfl, hh, by omega, by omega, ?_⟩
 refine ⟨_, rfl, p, A'.dx, _, rfl, hh.ob, Qj, p, A', S, 1, .non, rfl, hh, by omega, ?_⟩
 refine ⟨_, rfl, p, A'.dx, _, rfl, hh.ob, Qj, _, rfl, by decide, fun l0 hl0 => ⟨_, rfl, _, rfl, Sum.inr kind, rfl, ?_⟩⟩
 rw [QkX]
 refine ⟨l0, _, [V.non], rfl, rfl, Qd, by omega, by omega, by rw [PySem.sizeLine_eq]; simp; omega, fun l hl => ?_⟩
 rw [Qi2]
 refine ⟨zl, fun t ht => ⟨zl, fun d hd => ?_⟩⟩
 have s1 : Same H (upd H l0 (.lst [V.non])) := Same.new hl0
 have s2 := s1.trans (Same.new (o := .lst (List.replicate (ZY kind size).toNat V.non)) hl)
 have s3 := s2.trans (Same.new (o := .tup [.str kind, .ref l]) ht)
 have s4 := s3.trans (Same.new (o := .lst [.ref t]) hd)
 refine ⟨_, rfl, p, A', S, kind, (ZY kind size).toNat, slot, d, t, l, rfl, hh.same s4, Qd, Zk Qd hd, Zk (Zk Qd ht) hd, by omega, hb, hroom, hs, fun A2 H2 hh2 fr2 tu2 gr2 => ?_⟩
 exact k A2 H2 hh2 (fun b o q nb => fr2 b o (s4 b o q) nb) ((Tups.of_same s4).trans tu2) (fun b hb => (gr2 b hb).imp id fun z => s4.free z)
theorem Qem : Qz (Qg Q9) ["self", "room", "slots"] (QD ((QaJ (QeB (Qr Q9) 5)))) "guard" [] [] :=
 bsk
theorem Qel : Qz (Qg Q9) ["self", "room", "slots"] (QD ((QaJ (QeB (Qr Q9) 6)))) "guard" [] [] :=
 bsk
theorem Qfu {ds : List Value} (F : FunD K "__init__" "House.__init__" Q9 f fd ds) (T : TX K mg C)  :
  FnOk P w K mg base CX0 (n + 1) f fd ["self", "room", "slots"] (Ql7 C) := by
 refine F.ok Qfg (by rintro _ _ _ _ ⟨_, _, _, _, rfl, _⟩; rfl) fun _ _ _ s H vs Q E hr h => ?_
 obtain ⟨p, dx, room, n, rfl, hp, h0, h1, k⟩ := h
 have hu := Qu hr
 obtain ⟨tG, htG⟩ := T.g_guards
 refine ⟨_, (Qb (Qcd (pv 0) (pv 1) rfl)
  (Qb (Qcd (pv 0) (QE Qmh (Zu (Qa Qdc Qc)) (pv 2)) rfl)
  (Qb (Qcd (pv 0) Qi rfl)
  (Qb (Qcd (pv 0) Qbn rfl)
  (Qb (Qcd (pv 0) Qbn rfl)
  (Qb (Qcd (pv 0) (Qbd Qem rfl (QL (by rfl) T.g_range (Qa (Qac (v := .int 4) (by rfl) htG ⟨tG, rfl⟩) Qc)) (fun _ _ _ _ => Zd) (fun _ _ _ _ => (Zu Qc))) rfl)
  (Qe (Qcd (pv 0) (Qbd Qel rfl (QL (by rfl) T.g_range (Qa (Qac (v := .int 4) (by rfl) htG ⟨tG, rfl⟩) Qc)) (fun _ _ _ _ => Zd) (fun _ _ _ _ => (Zu Qc))) rfl)))))))), ?_⟩
 refine ⟨_, rfl, _, rfl, p, C, dx, _, rfl, hp, T.cl, T.n_room, (by show 0 < 1000; decide), ?_⟩
 refine ⟨by decide, fun l0 hl0 => ⟨_, rfl, l0, _, [V.non], rfl, rfl, Qd, by omega, by omega, by rw [PySem.sizeLine_eq]; simp; omega, fun l hl => ?_⟩⟩
 rw [Qi2]
 have p0 : p ≠ l0 := Qf Qd hl0
 have p1 : p ≠ l := Qf (by rw [Qh p0]; exact Qd) hl
 refine ⟨_, rfl, p, C, dx, _, rfl, (by rw [Qh p1, Qh p0]; exact Qd), T.cl, T.n_slots, (by show 1 < 1000; decide), ?_⟩
 refine ⟨_, rfl, p, C, dx, _, rfl, Qd, T.cl, T.n_last, (by show 2 < 1000; decide), ?_⟩
 intro d1 hd1
 have p2 : p ≠ d1 := Qf Qd hd1
 refine ⟨_, rfl, p, C, dx, _, rfl, (by rw [Qh p2]; exact Qd), T.cl, T.n_kinds, (by show 3 < 1000; decide), ?_⟩
 intro d2 hd2
 have p3 : p ≠ d2 := Qf Qd hd2
 refine ⟨_, rfl, p, C, dx, _, rfl, (by rw [Qh p3]; exact Qd), T.cl, T.n_fields, (by show 4 < 1000; decide), ?_⟩
 dsimp only [tSeq, sFld]
 refine comp4 fun as Ha la na ha sa q hq => ?_
 have eP := sa p _ Qd
 have p4 : p ≠ q := Qf eP hq
 refine ⟨_, rfl, p, C, dx, _, rfl, (by rw [Qh p4]; exact eP), T.cl, T.n_queues, (by show 5 < 1000; decide), ?_⟩
 refine comp4 fun bs Hb lb nb hb sb tt htt => ?_
 have eP2 := sb p _ Qd
 have p5 : p ≠ tt := Qf eP2 htt
 refine ⟨_, rfl, p, C, dx, _, rfl, (by rw [Qh p5]; exact eP2), T.cl, T.n_told, (by show 6 < 1000; decide), ?_⟩
 rw [QkR]
 have eL := sa l _ (Qb5 (Zk (Qb5 (Zk (Qb5 (Qb5 Qd p1.symm) p1.symm) hd1) p1.symm) hd2) p1.symm)
 have eD1 := sa d1 _ (Qb5 (Zk (Qb5 Qd p2.symm) hd2) p2.symm)
 have eD2 := sa d2 _ (Qb5 Qd p3.symm)
 have eA : ∀ a ∈ as, a ≠ p := fun a m => (Qf Qd (ha a m).1).symm
 have eB : ∀ a ∈ bs, a ≠ p := fun a m => (Qf Qd (hb a m).1).symm
 have up2 : ∀ {o o' : HO} (b : Addr) (u : HO), b ≠ p → Hb b = some u → upd (upd Hb tt o) p o' b = some u := fun b u n h => Qb5 (Zk h htt) n
 have upB : ∀ (b : Addr) (u : HO), b ≠ p → Ha b = some u → Hb b = some u := fun b u n h => sb _ _ (Qb5 (Zk h hq) n)
 have low : ∀ (b : Addr) (u : HO), b ≠ p → H b = some u → Ha b = some u := fun b u n h => sa _ _ (Qb5 (Zk (Qb5 (Zk (Qb5 (Qb5 (Zk (Zk (Qb5 h n) hl0) hl) n) n) hd1) n) hd2) n)
 have eQ := sb q _ (Qb5 Qd p4.symm)
 have fl : H l = none := QaQ (QaQ hl)
 have f1 : H d1 = none := QaQ (QaQ (QaQ (QaQ (QaQ hd1))))
 have f2 : H d2 = none := QaQ (QaQ (QaQ (QaQ (QaQ (QaQ (QaQ hd2))))))
 have gone : ∀ b : Addr, Ha b = none → b ≠ p → H b = none := fun b h n => by
  cases e : H b with
  | none => rfl
  | some u => rw [low b u n e] at h; cases h
 have fA : ∀ a ∈ as, H a = none := fun a m => QaQ (QaQ (QaQ (QaQ (QaQ (QaQ (QaQ (QaQ (QaQ (ha a m).1))))))))
 have fB : ∀ a ∈ bs, Ha a = none := fun a m => QaQ (QaQ (hb a m).1)
 have nT : ∀ b u, Hb b = some u → b ≠ tt := fun b u h => Qf h htt
 have tt0 : Ha tt = none := by
  cases e : Ha tt with
  | none => rfl
  | some u => rw [upB tt u p5.symm e] at htt; cases htt
 refine k ⟨dx, l, d1, d2, [], q, as, tt, bs⟩ _ ⟨Qd, ⟨_, up2 _ _ p1.symm (upB _ _ p1.symm eL), Qko (show isT _ .non .non from rfl) _⟩, up2 _ _ p2.symm (upB _ _ p2.symm eD1), up2 _ _ p3.symm (upB _ _ p3.symm eD2), .nil,
  up2 _ _ p4.symm eQ, Qku la fun a m => up2 _ _ (eA a m) (upB _ _ (eA a m) (ha a m).2), Qb5 Qd p5.symm, Qku lb fun a m => up2 _ _ (eB a m) (hb a m).2, ?_, ?_, List.Pairwise.nil, fun b hb => by cases hb⟩
  (fun b o h n => ?_) (fun b xs h => ?_) (fun b hb => ?_)
 ·show (l :: q :: tt :: ([] ++ (as ++ bs))).Nodup
  have l1 : l ≠ q := Qf eL hq
  have l2 : l ≠ tt := nT _ _ (upB _ _ p1.symm eL)
  have l3 : l ∉ as := fun m => by
   have z := (ha l m).1
   rw [Qb5 (Zk (Qb5 (Zk (Qb5 (Qb5 Qd p1.symm) p1.symm) hd1) p1.symm) hd2) p1.symm] at z
   cases z
  have l4 : l ∉ bs := fun m => by rw [fB l m] at eL; cases eL
  have q1 : q ≠ tt := nT _ _ eQ
  have q2 : q ∉ as := fun m => by rw [(ha q m).2] at hq; cases hq
  have q3 : q ∉ bs := fun m => by
   have z := (hb q m).1
   rw [Qb5 Qd p4.symm] at z
   cases z
  have t1 : tt ∉ as := fun m => by rw [(ha tt m).2] at tt0; cases tt0
  have t2 : tt ∉ bs := fun m => by rw [(hb tt m).2] at htt; cases htt
  have ab : ∀ x ∈ as, ∀ y ∈ bs, x ≠ y := fun x hx y hy e => by
   subst e
   have z := fB x hy
   rw [(ha x hx).2] at z
   cases z
  simp only [List.nil_append, List.nodup_cons, List.mem_cons, List.mem_append, not_or]
  exact ⟨⟨l1, l2, l3, l4⟩, ⟨q1, q2, q3⟩, ⟨t1, t2⟩, List.nodup_append.mpr ⟨na, nb, ab⟩⟩
 ·exact Qf (Qb5 Qd p2.symm) hd2
 ·have n : b ≠ p := by simpa using n
  exact up2 _ _ n (upB _ _ n (low _ _ n h))
 ·have n : b ≠ p := QI h hp (by intro z; cases z)
  exact up2 _ _ n (upB _ _ n (low _ _ n h))
 ·have hb' : b = p ∨ b = d1 ∨ b = d2 ∨ b = l ∨ b = q ∨ b = tt ∨ b ∈ as ∨ b ∈ bs := by simpa [HA.foot, HA.lists] using hb
  rcases hb' with e | e | e | e | e | e | e | e
  ·left; simp [e]
  ·right; rw [e]; exact f1
  ·right; rw [e]; exact f2
  ·right; rw [e]; exact fl
  ·right; rw [e]; exact gone q hq p4.symm
  ·right; rw [e]; exact gone tt tt0 p5.symm
  ·right; exact fA b e
  ·right; exact gone b (fB b e) (eB b e)
theorem Qai (F : Fun K "check_thing" "House.check_thing" Q4 f fd) (T : TX K mg C) (D1_ : DefOk P w K mg base n "box_name" ["thing"] (Zv) [[]])
  (M2_ : MethOk P w K mg base C n "check_box" ["self", "name"] (Zl C) [[]]) :
  FnOk P w K mg base CX0 (n + 1) f fd ["self", "thing"] (Qbj C) := by
 refine F.ok Q0 (by rintro _ _ _ _ ⟨_, _, _, _, _, rfl, _⟩; rfl) fun _ _ _ s H vs Q E hr h => ?_
 obtain ⟨p, A', S, v, t, rfl, hh, tv, hn, k⟩ := h
 have hu := Qu hr
 refine ⟨_, (Qb (Qw (i := 2) Q0.nd rfl (Or.inl rfl) (qc D1_ hr (Qa (pv 1) Qc)))
  (Qe (QA (Qag (Qbz (pv 2))) (Qe (Qk (qm M2_ (pv 0) T.cl hr (Qa (pv 2) Qc)))) Qn))), ?_⟩
 refine ⟨_, rfl, v, t, rfl, tv, ?_⟩
 cases t with
 | non => exact ⟨_, rfl, _, rfl, Qbg k⟩
 | num i => exact ⟨_, rfl, _, rfl, Qbg k⟩
 | box n => exact ⟨_, rfl, _, rfl, QaK ⟨_, rfl, p, A'.dx, _, rfl, hh.ob, Qj, _, rfl, p, A', S, n, rfl, hh, hn n rfl, k⟩⟩
theorem Qf1 (F : Fun K "put" "House.put" QaX f fd) (T : TX K mg C) (M1_ : MethOk P w K mg base C n "check_box" ["self", "name"] (Zl C) [[]])
  (M2_ : MethOk P w K mg base C n "check_thing" ["self", "thing"] (Qbj C) [[]])
  (M3_ : MethOk P w K mg base C n "check_field" ["self", "name", "at"] (Qbk C) [[]]) :
  FnOk P w K mg base CX0 (n + 1) f fd ["self", "name", "at", "thing"] (Qlq C) := by
 refine F.ok Qc9 (by rintro _ _ _ _ ⟨_, _, _, _, _, _, _, _, rfl, _⟩; rfl) fun _ _ _ s H vs Q E hr h => ?_
 obtain ⟨p, A', S, i, b, at_, v, t, rfl, hh, hi, hat, tv, hn, k⟩ := h
 have hu := Qu hr
 refine ⟨_, (Qb (Qk (qm M1_ (pv 0) T.cl hr (Qa (pv 1) Qc)))
  (Qb (Qk (qm M2_ (pv 0) T.cl hr (Qa (pv 3) Qc)))
  (Qb (Qk (qm M3_ (pv 0) T.cl hr (Qa (pv 1) (Qa (pv 2) Qc))))
  (Qe (Qkm (pv 3) (Qkr (Qao hu (QB (pv 0) rfl) (pv 1) (fun _ _ => rfl)) (pv 2) QgG)))))), ?_⟩
 obtain ⟨a, ws, ha, hw, ht, hv⟩ := hh.rowAt hi
 refine ⟨_, rfl, p, A'.dx, _, rfl, hh.ob, Qj, _, rfl, p, A', S, b.name, rfl, hh, Qaw hi, ?_⟩
 refine ⟨_, rfl, p, A'.dx, _, rfl, hh.ob, Qj, _, rfl, p, A', S, v, t, rfl, hh, tv, hn, ?_⟩
 refine ⟨_, rfl, p, A'.dx, _, rfl, hh.ob, Qj, _, rfl, _, rfl, p, A', S, i, b, at_, rfl, hh, hi, by omega, by omega, ?_⟩
 refine ⟨_, rfl, _, rfl, p, C, A'.dx, _, _, rfl, hh.ob, T.cl, T.n_fields, Qbe, _, rfl, A'.fd, .ref a, rfl, ?_, _, rfl, a, ws, at_, at_, rfl, rfl, hw, Qis (by rw [← QG ht]; exact hat), ?_⟩
 ·rw [← hv]; exact DGet.k (k := Sum.inl b.name) hh.fd
 exact hh.outOne (by simp [HA.lists, List.mem_of_getElem? ha]) hw (hh.setField hi ha hw ht tv) k
theorem Qfv (F : Fun K "hold" "House.hold" Qav f fd) (T : TX K mg C) (M1_ : MethOk P w K mg base C n "check_slot" ["self", "slot"] (Qa3 C) [[]])
  (M2_ : MethOk P w K mg base C n "check_thing" ["self", "thing"] (Qbj C) [[]]) :
  FnOk P w K mg base CX0 (n + 1) f fd ["self", "slot", "thing"] (Ql8 C) := by
 refine F.ok Qcn (by rintro _ _ _ _ ⟨_, _, _, _, _, _, rfl, _⟩; rfl) fun _ _ _ s H vs Q E hr h => ?_
 obtain ⟨p, A', S, j, v, t, rfl, hh, hj, tv, hn, k⟩ := h
 have hu := Qu hr
 refine ⟨_, (Qb (Qk (qm M1_ (pv 0) T.cl hr (Qa (pv 1) Qc)))
  (Qb (Qk (qm M2_ (pv 0) T.cl hr (Qa (pv 2) Qc)))
  (Qe (Qkm (pv 2) (Qkr (QB (pv 0) rfl) (pv 1) QgG))))), ?_⟩
 obtain ⟨ws, hw, ht⟩ := hh.sl
 refine ⟨_, rfl, p, A'.dx, _, rfl, hh.ob, Qj, _, rfl, p, A', S, j, rfl, hh, by omega, by omega, ?_⟩
 refine ⟨_, rfl, p, A'.dx, _, rfl, hh.ob, Qj, _, rfl, p, A', S, v, t, rfl, hh, tv, hn, ?_⟩
 refine ⟨_, rfl, _, rfl, p, C, A'.dx, _, _, rfl, hh.ob, T.cl, T.n_slots, QcX, _, rfl, A'.sl, ws, j, j, rfl, rfl, hw, Qis (by rw [← QG ht]; exact hj), ?_⟩
 exact hh.outOne (by simp [HA.lists]) hw (hh.setSlot hw ht tv) k
end
section
variable {C : Addr}
theorem Qf4 (F : Fun K "_law_whole" "_law_whole" QbT f fd) (T : TX K mg C)  :
  FnOk P w K mg base CX0 (n + 1) f fd ["found"] (QgC) := by
 refine F.ok QfY (by rintro _ _ _ _ ⟨_, rfl, _⟩; rfl) fun _ _ _ s H vs Q E hr h => ?_
 obtain ⟨i, rfl, q⟩ := h
 have hu := Qu hr
 refine ⟨_, (Qe (Qq (QdK (Qo Qb8 (by rfl) T.g_isi PyProof.Rows.boot_isinstance (Qa (pv 0) (Qa (QcB (v := .ty "int") (by rfl) T.g_int PyProof.Rows.boot_int rfl) Qc))) (Qfo (pe_not (Qo Qb8 (by rfl) T.g_isi PyProof.Rows.boot_isinstance (Qa (pv 0) (Qa (QcB (v := .ty "bool") (by rfl) T.g_bool PyProof.Rows.boot_bool rfl) Qc)))))))), ?_⟩
 refine ⟨_, rfl, _, "int", _, true, rfl, TyOf.int i, QcV _ _, _, rfl, QaK ?_⟩
 exact ⟨_, rfl, _, "bool", _, false, rfl, TyOf.int i, Qg1 (by decide +kernel) (by decide +kernel) T.s_ib, _, rfl, q⟩
theorem Qf8 (F : Fun K "_law_names" "_law_names" QbX f fd) (T : TX K mg C) (D1_ : DefOk P w K mg base n "_law_whole" ["found"] (QgC) [[]]) :
  FnOk P w K mg base CX0 (n + 1) f fd ["found", "due"] (QgE K) := by
 refine F.ok Qdb (by rintro _ _ _ _ ⟨_, _, _, rfl, _⟩; rfl) fun _ _ _ s H vs Q E hr h => ?_
 obtain ⟨a, b, ns, rfl, ha, hb, hl, q⟩ := h
 have hu := Qu hr
 refine ⟨_, (Qb (QA (PW.pt (QeH (Qbm (QaD (Qo Qb8 (by rfl) T.g_isi PyProof.Rows.boot_isinstance (Qa (pv 0) (Qa (QcB (v := .ty "list") (by rfl) T.g_list PyProof.Rows.boot_list rfl) Qc))))) (Qcc (Qp Qkw (Qo Qs (by rfl) T.g_len PySem.boot_len (Qa (pv 0) Qc)) (Qo Qs (by rfl) T.g_len PySem.boot_len (Qa (pv 1) Qc)) (Qv _))))) (Qe (Qq Qce)) Qn)
  (Qb (Q7 PassesOwn.never rfl (QL (by rfl) T.g_range (Qa (Qo Qs (by rfl) T.g_len PySem.boot_len (Qa (pv 1) Qc)) Qc)) (QR (i := 2) Qdb.nd rfl (Or.inl rfl))
  (Qe (QA (PW.pt (QeH (Qbm (QaD (qc D1_ hr (Qa (Zf QN (pv 0) (pv 2) (fun _ _ => rfl)) Qc)))) (Qcc (Qp Qkw (Zf QN (pv 0) (pv 2) (fun _ _ => rfl)) (Zf QN (pv 1) (pv 2) (fun _ _ => rfl)) (Qv _))))) (Qe (Qq Qce)) Qn)))
  (Qe (Qq Qce)))), ?_⟩
 refine ⟨_, rfl, _, "list", _, true, rfl, TyOf.lst ha, QcV _ _, _, rfl, Qbg ?_⟩
 refine ⟨_, rfl, a, _, rfl, .inl (SqL.of ha), _, rfl, b, _, rfl, .inl hb, rfl, _, rfl, QkN rfl ?_⟩
 refine ⟨_, rfl, b, _, rfl, .inl hb, _, rfl, by omega, by rw [List.length_map]; omega, ?_⟩
 have e : ((ns.map V.int).length : Int).toNat = ns.length := by simp
 rw [e]
 refine ZP (n := ns.length) (fun i σ H' => H' = H ∧ ∃ v, σ = [some (.ref a), some (.ref b), v]) ⟨rfl, none, rfl⟩ ?_ ?_
 ·rintro i σ H' hi ⟨rfl, v, rfl⟩
  have hx : (ns.map V.int)[i]? = some (V.int ns[i]) := by rw [List.getElem?_map, List.getElem?_eq_getElem hi]; rfl
  have e0 : (0 : Int) + (i : Int) = (i : Int) := Int.zero_add _
  rw [e0]
  refine ⟨_, rfl, _, rfl, a, _, i, _, rfl, rfl, SqL.of ha, QZ hx, ns[i], rfl, _, rfl, Qbg ?_⟩
  refine ⟨_, rfl, _, rfl, a, _, i, _, rfl, rfl, SqL.of ha, QZ hx, _, rfl, _, rfl, b, _, i, _, rfl, rfl, hb, QZ hx, rfl, _, rfl, QkN rfl ?_⟩
  exact ⟨rfl, _, rfl⟩
 ·rintro σ H' ⟨rfl, v, rfl⟩
  exact q
theorem QgQ (F : Fun K "_law_same" "_law_same" Qcs f fd) (T : TX K mg C) (D1_ : DefOk P w K mg base n "_law_whole" ["found"] (QgC) [[]]) :
  FnOk P w K mg base CX0 (n + 1) f fd ["found", "due"] (Ql5) := by
 refine F.ok QgH (by rintro _ _ _ _ ⟨_, _, _, rfl, _⟩; rfl) fun _ _ _ s H vs Q E hr h => ?_
 obtain ⟨v, u, t, rfl, tv, tu, q⟩ := h
 have hu := Qu hr
 refine ⟨_, (Qb (QA (Qag (Qhz (pv 1))) (Qe (Qq (Qmf (Qhz (pv 0))))) Qn)
  (Qb (QA (Qbm (QaD (Qo Qb8 (by rfl) T.g_isi PyProof.Rows.boot_isinstance (Qa (pv 1) (Qa (QcB (v := .ty "tuple") (by rfl) T.g_tuple PyProof.Rows.boot_tuple rfl) Qc))))) (Qe (Qq (QdK (qc D1_ hr (Qa (pv 0) Qc)) (Qfo (Qee ZC (pv 0) (pv 1) (Qv _)))))) Qn)
  (Qb (QA (PW.pt (QeH (Qbm (QaD (Qo Qb8 (by rfl) T.g_isi PyProof.Rows.boot_isinstance (Qa (pv 0) (Qa (QcB (v := .ty "tuple") (by rfl) T.g_tuple PyProof.Rows.boot_tuple rfl) Qc))))) (Qcc (Qp Qkw (Qo Qs (by rfl) T.g_len PySem.boot_len (Qa (pv 0) Qc)) Qi (Qv _))))) (Qe (Qq Qce)) Qn)
  (Qe (Qq (QdK (Qo Qb8 (by rfl) T.g_isi PyProof.Rows.boot_isinstance (Qa (Zf Qbp (pv 0) Qi (fun _ _ => rfl)) (Qa (QcB (v := .ty "str") (by rfl) T.g_str PyProof.Rows.boot_str rfl) Qc))) (QdK (qc D1_ hr (Qa (Zf Qbp (pv 0) Qi (fun _ _ => rfl)) Qc)) (Qfo (Qee (op_eqT hr.units0) (pv 0) (pv 1) (Qv _)))))))))), ?_⟩
 cases t with
 | non =>
  have tv : v = .non := tv
  have tu : u = .non := tu
  subst tv tu
  exact ⟨_, rfl, _, rfl, iteY rfl ⟨_, rfl, q⟩⟩
 | num i =>
  have tv : v = .int i := tv
  have tu : u = .int i := tu
  subst tv tu
  refine ⟨_, rfl, _, rfl, Qmo (by intro z; cases z) ?_⟩
  refine ⟨_, rfl, _, "tuple", _, false, rfl, TyOf.int i, Qg1 (by decide +kernel) (by decide +kernel) T.s_it, _, rfl, QaK ?_⟩
  refine ⟨_, rfl, i, rfl, _, rfl, QaK ⟨_, rfl, _, rfl, rfl, ?_⟩⟩
  rw [decide_eq_true rfl]
  exact q
 | box n =>
  obtain ⟨a, rfl, ha⟩ := tv
  obtain ⟨b, rfl, hb⟩ := tu
  refine ⟨_, rfl, _, rfl, Qmo (by intro z; cases z) ?_⟩
  refine ⟨_, rfl, _, "tuple", _, true, rfl, TyOf.tup hb, QcV _ _, _, rfl, Qbg ?_⟩
  refine ⟨_, rfl, _, "tuple", _, true, rfl, TyOf.tup ha, QcV _ _, _, rfl, Qbg ?_⟩
  refine ⟨_, rfl, a, _, rfl, .inr (SqT.of ha), rfl, _, rfl, QkN rfl ?_⟩
  refine ⟨_, rfl, a, _, 0, .str "box", rfl, rfl, SqT.of ha, rfl, _, "str", _, true, rfl, TyOf.str _, QcV _ _, _, rfl, QaK ?_⟩
  refine ⟨_, rfl, a, _, 1, .int n, rfl, rfl, SqT.of ha, rfl, n, rfl, _, rfl, QaK ?_⟩
  refine ⟨_, rfl, _, rfl, a, b, _, _, rfl, rfl, SqT.of ha, SqT.of hb, rfl, rfl, ?_⟩
  have e : eqT [V.str "box", V.int n] [V.str "box", V.int n] = true := by simp [eqT, eqV]
  rw [e]
  exact q
theorem QeS (F : Fun K "_law_cell_at" "_law_cell_at" Qbb f fd) (T : TX K mg C)  :
  FnOk P w K mg base CX0 (n + 1) f fd ["script", "k"] (QgF K) := by
 refine F.ok QeG (by rintro _ _ _ _ ⟨_, _, _, rfl, _⟩; rfl) fun _ _ _ s H vs Q E hr h => ?_
 obtain ⟨a, ns, k, rfl, hS, h0, q⟩ := h
 have hu := Qu hr
 refine ⟨_, (Qb (QA (Qp QgN (pv 1) (Qo Qs (by rfl) T.g_len PySem.boot_len (Qa (pv 0) Qc)) (Qv _)) (Qe (Qq (Zf QN (pv 0) (pv 1) (fun _ _ => rfl)))) Qn)
  (Qe (Qq Qi))), ?_⟩
 obtain ⟨j, rfl⟩ : ∃ j : Nat, k = (j : Int) := ⟨k.toNat, by omega⟩
 refine ⟨_, rfl, _, rfl, a, _, rfl, .inl hS.sq, _, _, rfl, rfl, _, rfl, ?_⟩
 refine Qgr (fun hlt => ?_) (fun hlt => ?_)
 ·have hlt : (j : Int) < ((ns.map V.int).length : Int) := of_decide_eq_true hlt
  have hlt : j < ns.length := by rw [List.length_map] at hlt; omega
  refine ⟨_, rfl, _, rfl, a, _, j, V.int ns[j], rfl, rfl, hS.sq, QZ (by rw [List.getElem?_map, List.getElem?_eq_getElem hlt]; rfl), ?_⟩
  have e : cellOf ns (j : Int) = ns[j] := by simp [cellOf, List.getD_eq_getElem?_getD, hlt]
  rw [← e]; exact q
 ·have hlt : ¬ (j : Int) < ((ns.map V.int).length : Int) := fun z => hlt (decide_eq_true z)
  have e : cellOf ns (j : Int) = 0 := by
   rw [List.length_map] at hlt
   simp [cellOf, List.getD_eq_getElem?_getD, List.getElem?_eq_none (show ns.length ≤ j by omega)]
  rw [e] at q
  exact q
theorem QgT (F : Fun K "_law_draw" "_law_draw" Qcv f fd) (T : TX K mg C) (D1_ : DefOk P w K mg base n "_law_cell_at" ["script", "k"] (QgF K) [[]]) :
  FnOk P w K mg base CX0 (n + 1) f fd ["script", "k"] (Qdf K) := by
 refine F.ok QgJ (by rintro _ _ _ _ ⟨_, _, _, rfl, _⟩; rfl) fun _ _ _ s H vs Q E hr h => ?_
 obtain ⟨a, ns, k, rfl, hS, q⟩ := h
 have hu := Qu hr
 refine ⟨_, (Qe (Qq (QE Zb (QE QiX (QE Qah (qc D1_ hr (Qa (pv 0) (Qa (QE Zb (pv 1) Qi) Qc))) (QE QiX Qi (pv 1))) Qi) Qi))), ?_⟩
 refine ⟨_, rfl, _, rfl, _, _, rfl, rfl, (by show (0 : Int) < 61; decide), a, ns, _, rfl, hS, Int.emod_nonneg _ (by decide), ?_⟩
 refine ⟨_, rfl, _, _, rfl, rfl, .inl ⟨by decide, by decide⟩, _, _, rfl, rfl, _, _, rfl, rfl, .inr ⟨by decide, by decide⟩, _, _, rfl, rfl, (by show (0 : Int) < 2147483647; decide), q⟩
theorem QgS (F : Fun K "_law_many" "_law_many" Qct f fd) (T : TX K mg C) (D1_ : DefOk P w K mg base n "_law_cell_at" ["script", "k"] (QgF K) [[]]) :
  FnOk P w K mg base CX0 (n + 1) f fd ["script"] (Qj5 K) := by
 refine F.ok QdD (by rintro _ _ _ _ ⟨_, _, rfl, _⟩; rfl) fun _ _ _ s H vs Q E hr h => ?_
 obtain ⟨a, ns, rfl, hS, q⟩ := h
 have hu := Qu hr
 refine ⟨_, (Qb (Qw (i := 1) QdD.nd rfl (Or.inl rfl) (qc D1_ hr (Qa (pv 0) (Qa Qi Qc))))
  (Qb (QA (Qp ZC (QE Zb (pv 1) Qi) Qi (Qv _)) (Qe (Qq (QE Qah Qi (QE Zb (QE QcC (pv 1) Qi) Qi)))) Qn)
  (Qe (Qq (QE Qah Qi (QE Zb (pv 1) Qi)))))), ?_⟩
 refine ⟨_, rfl, a, ns, 0, rfl, hS, by decide, ?_⟩
 generalize cellOf ns 0 = c
 refine ⟨_, rfl, _, _, rfl, rfl, (by show (0 : Int) < 7; decide), rfl, _, rfl, Qgr (fun _ => ?_) (fun _ => ?_)⟩
 ·refine ⟨_, rfl, _, _, rfl, rfl, ⟨by decide, by decide⟩, _, _, rfl, rfl, (by show (0 : Int) < 40; decide), _, _, rfl, rfl, q _ ?_ ?_⟩
  ·have := Int.emod_nonneg (c / 7) (show (40 : Int) ≠ 0 by decide); omega
  ·have := Int.emod_lt_of_pos (c / 7) (show (0 : Int) < 40 by decide); omega
 ·refine ⟨_, rfl, _, _, rfl, rfl, (by show (0 : Int) < 7; decide), _, _, rfl, rfl, q _ ?_ ?_⟩
  ·omega
  ·omega
theorem Qfz (F : Fun K "_law_number" "_law_number" Qbw f fd) (T : TX K mg C) (D1_ : DefOk P w K mg base n "_law_draw" ["script", "k"] (Qdf K) [[]])
  (D2_ : DefOk P w K mg base n "_law_cell_at" ["script", "k"] (QgF K) [[]]) :
  FnOk P w K mg base CX0 (n + 1) f fd ["script", "k"] (QiF K) := by
 refine F.ok Qco (by rintro _ _ _ _ ⟨_, _, _, rfl, _⟩; rfl) fun _ _ _ s H vs Q E hr h => ?_
 obtain ⟨a, ns, k, rfl, hS, q⟩ := h
 have hu := Qu hr
 refine ⟨_, (Qb (Qw (i := 2) Qco.nd rfl (Or.inl rfl) (qc D1_ hr (Qa (pv 0) (Qa (pv 1) Qc))))
  (Qb (QA (Qp ZC (QE Zb (pv 2) Qi) Qi (Qv _)) (Qe (Qq (QE Zb (qc D2_ hr (Qa (pv 0) (Qa (QE Zb (pv 1) Qi) Qc))) (QE Qmi Qi Qi)))) Qn)
  (Qb (QA (Qp ZC (QE Zb (pv 2) Qi) Qi (Qv _)) (Qe (Qq (QE Qmg Qi (QE Zb (qc D2_ hr (Qa (pv 0) (Qa (QE Zb (pv 1) Qi) Qc))) (QE Qmi Qi Qi))))) Qn)
  (Qe (Qq (QE Qmg (QE Zb (QE QcC (pv 2) Qi) Qi) Qi)))))), ?_⟩
 refine ⟨_, rfl, _, rfl, a, ns, k, rfl, hS, ?_⟩
 refine ⟨_, rfl, _, _, rfl, rfl, (by show (0 : Int) < 3; decide), rfl, _, rfl, Qgr (fun _ => ?_) (fun _ => ?_)⟩
 ·refine ⟨_, rfl, _, rfl, _, _, rfl, rfl, (by show (0 : Int) < 61; decide), a, ns, _, rfl, hS, Int.emod_nonneg _ (by decide), _, _, rfl, rfl, ⟨by decide, by decide, by decide⟩, _, _, rfl, rfl, p40, ?_⟩
  rw [show Int.toNat 40 = 40 from rfl]
  have h1 := Int.emod_nonneg (cellOf ns (k % 61)) (show (10 : Int) ^ 40 ≠ 0 by decide)
  have h2 := Int.emod_lt_of_pos (cellOf ns (k % 61)) p40
  exact q _ (by have := p40; omega) h2
 ·refine ⟨_, rfl, _, _, rfl, rfl, (by show (0 : Int) < 3; decide), rfl, _, rfl, Qgr (fun _ => ?_) (fun _ => ?_)⟩
  ·refine ⟨_, rfl, _, rfl, _, _, rfl, rfl, (by show (0 : Int) < 61; decide), a, ns, _, rfl, hS, Int.emod_nonneg _ (by decide), _, _, rfl, rfl, ⟨by decide, by decide, by decide⟩, _, _, rfl, rfl, p40, _, _, rfl, rfl, ?_⟩
   rw [show Int.toNat 40 = 40 from rfl]
   have h1 := Int.emod_nonneg (cellOf ns (k % 61)) (show (10 : Int) ^ 40 ≠ 0 by decide)
   have h2 := Int.emod_lt_of_pos (cellOf ns (k % 61)) p40
   exact q _ (by have := p40; omega) (by have := p40; omega)
  ·refine ⟨_, rfl, _, _, rfl, rfl, ⟨by decide, by decide⟩, _, _, rfl, rfl, (by show (0 : Int) < 9; decide), _, _, rfl, rfl, q _ ?_ ?_⟩
   ·have : (4 : Int) < 10 ^ 40 := by decide
    omega
   ·have : (9 : Int) < 10 ^ 40 := by decide
    omega
theorem Qf6 (F : Fun K "_law_thing" "_law_thing" QbV f fd) (T : TX K mg C) (D1_ : DefOk P w K mg base n "_law_draw" ["script", "k"] (Qdf K) [[]])
  (D2_ : DefOk P w K mg base n "_law_number" ["script", "k"] (QiF K) [[]]) :
  FnOk P w K mg base CX0 (n + 1) f fd ["script", "k", "many"] (QjZ K) := by
 refine F.ok Qda (by rintro _ _ _ _ ⟨_, _, _, _, rfl, _⟩; rfl) fun _ _ _ s H vs Q E hr h => ?_
 obtain ⟨a, ns, k, many, rfl, hS, hm, q⟩ := h
 have hu := Qu hr
 refine ⟨_, (Qb (Qw (i := 3) Qda.nd rfl (Or.inl rfl) (qc D1_ hr (Qa (pv 0) (Qa (pv 1) Qc))))
  (Qb (QA (Qp ZC (QE Zb (pv 3) Qi) Qi (Qv _)) (Qe (Qq Qdc)) Qn)
  (Qb (QA (Qp ZC (QE Zb (pv 3) Qi) Qi (Qv _)) (Qe (Qq (qc D2_ hr (Qa (pv 0) (Qa (QE Qah (pv 1) Qi) Qc))))) Qn)
  (Qe (Qq (QaE (Qa Qab (Qa (QE Qah Qi (QE Zb (QE QcC (pv 3) Qi) (pv 2))) Qc)))))))), ?_⟩
 refine ⟨_, rfl, _, rfl, a, ns, k, rfl, hS, ?_⟩
 refine ⟨_, rfl, _, _, rfl, rfl, (by show (0 : Int) < 5; decide), rfl, _, rfl, Qgr (fun _ => ?_) (fun _ => ?_)⟩
 ·exact q .non .non H (Same.refl H) rfl trivial
 ·refine ⟨_, rfl, _, _, rfl, rfl, (by show (0 : Int) < 5; decide), rfl, _, rfl, Qgr (fun _ => ?_) (fun _ => ?_)⟩
  ·refine ⟨_, rfl, _, rfl, _, _, rfl, rfl, a, ns, k + 1, rfl, hS, fun i h1 h2 => ?_⟩
   exact q (.num i) (.int i) H (Same.refl H) rfl ⟨h1, h2⟩
  ·refine ⟨_, rfl, _, _, rfl, rfl, ⟨by decide, by decide⟩, _, rfl, _, _, rfl, rfl, (by show (0 : Int) < many; omega), _, _, rfl, rfl, zl, fun l hl => ?_⟩
   have h1 := Int.emod_nonneg (drw ns k / 5) (show many ≠ 0 by omega)
   have h2 := Int.emod_lt_of_pos (drw ns k / 5) (show (0 : Int) < many by omega)
   exact q (.box (1 + drw ns k / 5 % many)) (.ref l) _ (Same.new hl) ⟨l, rfl, Qd⟩ ⟨by omega, by omega⟩
theorem Qf7 (F : Fun K "_law_slots" "_law_slots" QbW f fd) (T : TX K mg C) (D1_ : DefOk P w K mg base n "_law_draw" ["script", "k"] (Qdf K) [[]]) :
  FnOk P w K mg base CX0 (n + 1) f fd ["script", "count", "many"] (Qj1 K) := by
 refine F.ok Q8 (by rintro _ _ _ _ ⟨_, _, _, _, rfl, _⟩; rfl) fun _ _ _ s H vs Q E hr h => ?_
 obtain ⟨a, ns, count, many, rfl, hS, hc0, hc1, hm, q⟩ := h
 have hu := Qu hr
 refine ⟨_, (Qb (Qw (i := 3) Q8.nd rfl (Or.inl rfl) (Zu Qc))
  (Qb (Q7 PassesOwn.never rfl (QL (by rfl) T.g_range (Qa (pv 1) Qc)) (QR (i := 4) Q8.nd rfl (Or.inl rfl))
  (Qb (Qw (i := 5) Q8.nd rfl (Or.inl rfl) (qc D1_ hr (Qa (pv 0) (Qa (QE Qah Qi (pv 4)) Qc))))
  (Qb (Qw (i := 6) Q8.nd rfl (Or.inl rfl) Qdc)
  (Qb (QA (Qp ZC (QE Zb (pv 5) Qi) Qi (Qv _)) (Qe (Qw (i := 6) Q8.nd rfl (Or.inl rfl) (QaE (Qa Qab (Qa (QE Qah Qi (QE Zb (QE QcC (pv 5) Qi) (pv 2))) Qc))))) Qn)
  (Qb (QA (Qp ZC (QE Zb (pv 5) Qi) Qi (Qv _)) (Qe (Qw (i := 6) Q8.nd rfl (Or.inl rfl) (QE Zb (QE QcC (pv 5) Qi) Qi))) Qn)
  (Qe (Qk (Qfp PySem.F.plainAttrs_list PySem.F.slot_list_append PySem.F.type_list_append QaG (pv 3) (Qa (pv 6) Qc)))))))))
  (Qe (Qq (pv 3))))), ?_⟩
 refine ⟨Nat.zero_le _, fun l hl => ?_⟩
 refine ⟨_, rfl, count, rfl, by omega, by omega, ZP (n := count.toNat) (fun i σ H' => ∃ v_k v_cell v_thing, σ = [some (.ref a), some (.int count), some (.int many), some (.ref l), v_k, v_cell, v_thing] ∧ Same H H' ∧
  ∃ ts, ThL H' ts l ∧ ts.length = i ∧ ∀ t ∈ ts, TOk many t) ?_ ?_ ?_⟩
 ·exact ⟨_, _, _, rfl, Same.new hl, [], ⟨[], Qd, .nil⟩, rfl, by simp⟩
 ·rintro i σ H1 hi ⟨v1, v2, v3, rfl, s1, ts, ⟨vs, hv, ht⟩, hlen, hts⟩
  have hS1 := hS.keep (Frz.of_same s1)
  refine ⟨_, rfl, _, rfl, _, _, rfl, rfl, a, ns, _, rfl, hS1, ?_⟩
  generalize drw ns (700 + (0 + (i : Int))) = c
  have hvl : vs.length = i := by rw [← hlen]; exact (QG ht).symm
  have fin : ∀ (t : LW.T) (v : V) (H2 : Hp), Same H1 H2 → isT H2 t v → TOk many t → H2 l = some (.lst vs) ∧ vs.length < sizeLine ∧ (Same H (upd H2 l (.lst (vs ++ [v]))) ∧ ∃ ts, ThL (upd H2 l (.lst (vs ++ [v]))) ts l ∧ ts.length = i + 1 ∧ ∀ t ∈ ts, TOk many t) := fun t v H2 s2 tv ok => by
   have h2 := s2 _ _ hv
   have tu : Tups H2 (upd H2 l (.lst (vs ++ [v]))) := Tups.upd h2 (by intro xs z; cases z)
   refine ⟨h2, QO (by omega), fun b o e => ?_, ts ++ [t], ⟨_, Qd, Ths.keep tu (Qbc (Ths.keep (Tups.of_same s2) ht) (.cons tv .nil))⟩, by simp [hlen], fun x hx => ?_⟩
   ·rw [Qh (Qf e hl)]; exact s2 _ _ (s1 _ _ e)
   ·rcases List.mem_append.mp hx with z | z
    ·exact hts x z
    ·rw [List.mem_singleton.mp z]; exact ok
  refine ⟨_, rfl, _, _, rfl, rfl, (by show (0 : Int) < 3; decide), rfl, _, rfl, Qgr (fun _ => ?_) (fun _ => ?_)⟩
  ·refine ⟨_, rfl, _, _, rfl, rfl, ⟨by decide, by decide⟩, _, rfl, _, _, rfl, rfl, (by show (0 : Int) < many; omega), _, _, rfl, rfl, zl, fun b hb => ?_⟩
   have h1 := Int.emod_nonneg (c / 3) (show many ≠ 0 by omega)
   have h2 := Int.emod_lt_of_pos (c / 3) (show (0 : Int) < many by omega)
   refine ⟨_, rfl, _, _, rfl, rfl, (by show (0 : Int) < 7; decide), rfl, _, rfl, Qgr (fun _ => ?_) (fun _ => ?_)⟩
   ·refine ⟨_, rfl, _, _, rfl, rfl, ⟨by decide, by decide⟩, _, _, rfl, rfl, (by show (0 : Int) < 100; decide), ?_⟩
    obtain ⟨f1, f2, f3, f4⟩ := fin (.num (c / 7 % 100)) (.int (c / 7 % 100)) _ (Same.new hb) rfl (Qmk _ (by omega) (by omega))
    exact ⟨_, rfl, .inl ⟨rfl, _, SqL.of f1⟩, _, rfl, l, _, _, rfl, rfl, f1, f2, ⟨_, _, _, rfl, f3, f4⟩⟩
   ·obtain ⟨f1, f2, f3, f4⟩ := fin (.box (1 + c / 3 % many)) (.ref b) _ (Same.new hb) ⟨b, rfl, Qd⟩ ⟨by omega, by omega⟩
    exact ⟨_, rfl, .inl ⟨rfl, _, SqL.of f1⟩, _, rfl, l, _, _, rfl, rfl, f1, f2, ⟨_, _, _, rfl, f3, f4⟩⟩
  ·refine ⟨_, rfl, _, _, rfl, rfl, (by show (0 : Int) < 7; decide), rfl, _, rfl, Qgr (fun _ => ?_) (fun _ => ?_)⟩
   ·refine ⟨_, rfl, _, _, rfl, rfl, ⟨by decide, by decide⟩, _, _, rfl, rfl, (by show (0 : Int) < 100; decide), ?_⟩
    obtain ⟨f1, f2, f3, f4⟩ := fin (.num (c / 7 % 100)) (.int (c / 7 % 100)) _ (Same.refl _) rfl (Qmk _ (by omega) (by omega))
    exact ⟨_, rfl, .inl ⟨rfl, _, SqL.of f1⟩, _, rfl, l, _, _, rfl, rfl, f1, f2, ⟨_, _, _, rfl, f3, f4⟩⟩
   ·obtain ⟨f1, f2, f3, f4⟩ := fin .non .non _ (Same.refl _) rfl trivial
    exact ⟨_, rfl, .inl ⟨rfl, _, SqL.of f1⟩, _, rfl, l, _, _, rfl, rfl, f1, f2, ⟨_, _, _, rfl, f3, f4⟩⟩
 ·rintro σ H1 ⟨v1, v2, v3, rfl, s1, ts, ht, hlen, hts⟩
  exact ⟨_, rfl, q l ts H1 s1 hl ht (by omega) hts⟩
theorem QeW : Qz (Qg Qaa) ["script", "many", "kinds", "rows", "name", "cell", "size"] (QD ((QaJ (QeB (Qiu (QeB (Qr Qaa) 2)) 3)))) "at" ["script", "many", "name"] [0, 1, 4] :=
 bsk
theorem Qga (F : Fun K "_law_graph" "_law_graph" Qaa f fd) (T : TX K mg C) (D1_ : DefOk P w K mg base n "_law_draw" ["script", "k"] (Qdf K) [[]])
  (D2_ : DefOk P w K mg base n "_law_thing" ["script", "k", "many"] (QjZ K) [[]]) :
  FnOk P w K mg base CX0 (n + 1) f fd ["script", "many"] (Qkb K) := by
 refine F.ok Zn (by rintro _ _ _ _ ⟨_, _, _, rfl, _⟩; rfl) fun _ _ _ s H vs Q E hr h => ?_
 obtain ⟨a, ns, many, rfl, hS, hm1, hm2, q⟩ := h
 have hu := Qu hr
 refine ⟨_, (Qb (Qw (i := 2) Zn.nd rfl (Or.inl rfl) Qbn)
  (Qb (Qw (i := 3) Zn.nd rfl (Or.inl rfl) Qbn)
  (Qb (Q7 PassesOwn.never rfl (Qkq (by rfl) T.g_range (Qa Qi (Qa (QE Qah (pv 1) Qi) Qc))) (QR (i := 4) Zn.nd rfl (Or.inr rfl))
  (Qb (Qw (i := 5) Zn.nd rfl (Or.inl rfl) (qc D1_ hr (Qa (pv 0) (Qa (QE QiX Qi (pv 4)) Qc))))
  (Qb (Qcz hu (pv 2) (pv 4) (Zf QN (Zu (Qa Qab (Qa Qab (Qa Qab (Qa Qab Qc))))) (QE Zb (pv 5) Qi) (fun _ _ => rfl)) rfl)
  (Qb (Qw (i := 6) Zn.nd rfl (Or.inl rfl) (Zf QN (Zu (Qa (QE Zb (QE QcC (pv 5) Qi) Qi) (Qa Qi (Qa Qi (Qa (QE Zb (QE QcC (pv 5) Qi) Qi) Qc))))) (QE Zb (pv 5) Qi) (fun _ _ => rfl)))
  (Qe (Qcz hu (pv 3) (pv 4) (Qbd QeW rfl (QL (by rfl) T.g_range (Qa (pv 6) Qc)) (fun _ _ _ _ => Zd) (fun _ _ _ _ => (qc D2_ hr (Qa (pv 1) (Qa (QE Qah (QE Qah (QE QiX Qi (pv 3)) Qi) (pv 0)) (Qa (pv 2) Qc)))))) rfl))))))
  (Qe (Qq (QaE (Qa (pv 2) (Qa (pv 3) Qc)))))))), ?_⟩
 refine fun ak hak => ?_
 refine fun ar har => ?_
 have hra : ar ≠ ak := fun e => by rw [e, Qd] at har; cases har
 have har0 : H ar = none := (Same.new hak).free har
 refine ⟨_, rfl, _, _, rfl, rfl, 1, many + 1, rfl, ⟨by decide, by decide, by omega, by omega⟩, ?_⟩
 have em : (many + 1 - 1).toNat = many.toNat := by omega
 rw [em]
 refine ZP (lo := 1) (n := many.toNat) (fun i σ H' => ∃ v_name v_cell v_size, σ = [some (.ref a), some (.int many), some (.ref ak), some (.ref ar), v_name, v_cell, v_size] ∧ Same H H' ∧
  ∃ bs, RecNew H H' ak ar bs ∧ bs.map (·.name) = QK 1 i ∧ ∀ b ∈ bs, BOk many b) ?_ ?_ ?_
 ·refine ⟨_, _, _, rfl, (Same.new hak).trans (Same.new har), [], ⟨[], Zk Qd har, Qd, .nil, by simp [hra.symm], ?_⟩, rfl, by simp⟩
  intro b hb
  have hb : b = ak ∨ b = ar := by simpa using hb
  rcases hb with rfl | rfl
  ·exact hak
  ·exact har0
 ·rintro i σ H1 hi ⟨v1, v2, v3, rfl, s1, bs, hR, hnm, hok⟩
  have hS1 := hS.keep (Frz.of_same s1)
  refine ⟨_, rfl, _, rfl, _, _, rfl, rfl, .inl ⟨by decide, by decide⟩, a, ns, _, rfl, hS1, ?_⟩
  generalize drw ns (10 * (1 + (i : Int))) = c
  obtain ⟨kd, sz, hk1, hk2, hkd, hz0, hz8, hsz⟩ := menu4 c
  have hR0 := hR
  obtain ⟨fl, e1, e2, pf, nd, fr⟩ := hR
  have hl := QG pf
  have hbl : bs.length = i := by have := congrArg List.length hnm; rw [QJ] at this; simpa using this
  have hout : (1 + (i : Int)) ∉ bs.map (·.name) := by rw [hnm, ZG]; omega
  refine ⟨zl, fun l1 hl1 => ⟨_, rfl, _, _, rfl, rfl, (by show (0 : Int) < 4; decide), l1, _, _, _, rfl, rfl, SqL.of Qd, hk1, ?_⟩⟩
  refine ⟨_, rfl, _, rfl, ak, _, rfl, DPut.k (k := Sum.inl (1 + (i : Int))) (Zk e1 hl1) (by simp only [Qx, List.length_map]; exact QO (by omega)), ?_⟩
  have s2 : Same H1 (upd H1 l1 (.lst [V.str "plain", V.str "weak", V.str "pair", V.str "plain"])) := Same.new hl1
  generalize eH2 : upd (upd H1 l1 (.lst [V.str "plain", V.str "weak", V.str "pair", V.str "plain"])) ak (.dK (Qci (Qx bs) (Sum.inl (1 + (i : Int))) (.str kd))) = H2
  have sH2 : Same H H2 := fun b o e => by
   rw [← eH2, Qh (Qf e hak)]; exact s2 _ _ (s1 _ _ e)
  refine ⟨_, rfl, _, _, rfl, rfl, ⟨by decide, by decide⟩, _, _, rfl, rfl, (by show (0 : Int) < 9; decide), _, rfl, _, _, rfl, rfl, ⟨by decide, by decide⟩, _, _, rfl, rfl, (by show (0 : Int) < 3; decide), zl, fun l2 hl2 => ?_⟩
  refine ⟨_, rfl, _, _, rfl, rfl, (by show (0 : Int) < 4; decide), l2, _, _, _, rfl, rfl, SqL.of Qd, hk2, ?_⟩
  have s3 : Same H2 (upd H2 l2 (.lst [V.int (c / 4 % 9), V.int 1, V.int 2, V.int (c / 4 % 3)])) := Same.new hl2
  generalize upd H2 l2 (.lst [V.int (c / 4 % 9), V.int 1, V.int 2, V.int (c / 4 % 3)]) = H3 at s3 ⊢
  refine ⟨_, rfl, sz, rfl, by omega, by omega, ?_⟩
  refine Qaq (lo := 0) (n := sz.toNat) (fun j ys H' => Same H3 H' ∧ ∃ ts, Ths H' ts ys ∧ ts.length = j ∧ ∀ t ∈ ts, TOk many t) ⟨Same.refl _, [], .nil, rfl, by simp⟩ ?_ (ZO (by omega)) ?_ ?_
  ·rintro j ys H' ⟨_, ts, ht, hj, _⟩
   rw [← QG ht, hj]; exact Nat.le_refl _
  ·rintro j ys H' hj ⟨s4, ts, ht, htl, hts⟩
   dsimp only [Qc0]
   have hS4 := (hS.keep (Frz.of_same sH2)).keep (Frz.of_same (s3.trans s4))
   refine QaK ⟨_, rfl, _, rfl, _, _, rfl, rfl, .inl ⟨by decide, by decide⟩, _, _, rfl, rfl, _, rfl, _, _, rfl, rfl, _, rfl, a, ns, _, many, rfl, hS4, hm1, fun t v H5 s5 tv ok => ?_⟩
   refine ⟨s4.trans s5, ts ++ [t], Qbc (Ths.keep (Tups.of_same s5) ht) (.cons tv .nil), by simp [htl], fun x hx => ?_⟩
   rcases List.mem_append.mp hx with z | z
   ·exact hts x z
   ·rw [List.mem_singleton.mp z]; exact ok
  ·rintro ys H4 ⟨s4, ts, ht, htl, hts⟩ r hr4
   have r2 : H2 ar = some (.dK (Qt bs fl)) := by rw [← eH2, Qh hra]; exact s2 _ _ e2
   have s34 : Same H2 (upd H4 r (.lst ys)) := (s3.trans s4).trans (Same.new hr4)
   refine ⟨_, rfl, _, rfl, ar, _, rfl, DPut.k (k := Sum.inl (1 + (i : Int))) (s34 _ _ r2) (by rw [Qt, List.length_map, List.length_zip]; exact QO (by omega)), ?_⟩
   refine ⟨_, _, _, rfl, fun b o e => ?_, bs ++ [⟨1 + (i : Int), kd, ts⟩], ?_, ?_, ?_⟩
   ·rw [Qh (Qf e har0)]; exact s34 _ _ (sH2 _ _ e)
   ·refine hR0.snoc (b := ⟨1 + (i : Int), kd, ts⟩) (a := r) s2 hout eH2.symm s34 ⟨ys, Qd, Ths.keep (Tups.new hr4) ht⟩ ((s3.trans s4).free hr4) sH2 fun fl' h => ?_
    rw [HO.dK.inj (Option.some.inj (h.symm.trans (s34 _ _ r2)))]
   ·rw [List.map_append, hnm, Qdr]; rfl
   ·intro b hb
    rcases List.mem_append.mp hb with z | z
    ·exact hok b z
    ·rw [List.mem_singleton.mp z]
     exact ⟨hkd, by show ZY kd (ts.length : Int) = (ts.length : Int); rw [show (ts.length : Int) = sz by omega]; exact hsz, by show ts.length ≤ 8; omega, hts⟩
 ·rintro σ H1 ⟨v1, v2, v3, rfl, s1, bs, hR, hnm, hok⟩
  refine ⟨_, rfl, _, rfl, zl, fun m hm => ?_⟩
  exact q m ak ar bs _ (s1.trans (Same.new hm)) Qd (hR.same (Same.new hm)) hnm hok
theorem Qf9 {t_mk1 t_mk2 t_sl : Tok} (F : Fun K "_law_house" "_law_house" QbY f fd) (T : TX K mg C) (D1_ : MakeOk P w K mg base C n ["self", "room", "slots"] (Ql7 C) [[], [.int 4 t_sl]])
  (M2_ : MethOk P w K mg base C n "make" ["self", "kind", "size", "slot"] (Qj6 C) [[], [.int 0 t_mk1, .int 0 t_mk2], [.int 0 t_mk2]])
  (M3_ : MethOk P w K mg base C n "put" ["self", "name", "at", "thing"] (Qlq C) [[]])
  (M4_ : MethOk P w K mg base C n "hold" ["self", "slot", "thing"] (Ql8 C) [[]]) :
  FnOk P w K mg base CX0 (n + 1) f fd ["kinds", "rows", "slots", "extra"] (Qj9 C) := by
 obtain ⟨fI1_, fdI1_, jI1_, hjI1_, MK1_, GI1_, bI1_⟩ := D1_
 refine F.ok Zm (by rintro _ _ _ _ ⟨_, _, _, _, _, _, _, rfl, _⟩; rfl) fun _ _ _ s H vs Q E hr h => ?_
 obtain ⟨ak, ar, as, fl, bs, ts, extra, rfl, hk, hr', pf, hs, hnm, h64, hok, ht1, ht2, hts, hx, q⟩ := h
 have hu := Qu hr
 refine ⟨_, (Qb (Qw (i := 4) Zm.nd rfl (Or.inl rfl) (Qks MK1_ GI1_ (hr.mono hjI1_) (by rfl) T.g_house (bI1_ [] (by simp)) .nil Qig (Qa (QE Qah (Qo QhV (by rfl) T.g_len PySem.boot_len (Qa (pv 0) Qc)) (pv 3)) (Qa (Qo Qs (by rfl) T.g_len PySem.boot_len (Qa (pv 2) Qc)) Qc))))
  (Qb (Q7 PassesOwn.never rfl (QQ (Qo (QaI hr.hd) (by rfl) T.g_sorted PyProof.Rows.boot_sorted (Qa (pv 0) Qc))) (QR (i := 5) Zm.nd rfl (Or.inl rfl))
  (Qe (Qk (qm M2_ (pv 4) T.cl hr (Qa (Qao hu (pv 0) (pv 5) (fun _ _ => rfl)) (Qa (Qo Qs (by rfl) T.g_len PySem.boot_len (Qa (Qao hu (pv 1) (pv 5) (fun _ _ => rfl)) Qc)) (Qa Qi Qc)))))))
  (Qb (Q7 PassesOwn.never rfl (QQ (Qo (QaI hr.hd) (by rfl) T.g_sorted PyProof.Rows.boot_sorted (Qa (pv 1) Qc))) (QR (i := 5) Zm.nd rfl (Or.inl rfl))
  (Qe (Q7 PassesOwn.never rfl (Qdk (by rfl) T.g_enumerate (Qa (Qao hu (pv 1) (pv 5) (fun _ _ => rfl)) Qc)) (QcA rfl Zm.nd (i := 6) (j := 7) rfl rfl (Or.inl rfl) (Or.inl rfl))
  (Qe (Qk (qm M3_ (pv 4) T.cl hr (Qa (pv 5) (Qa (pv 6) (Qa (pv 7) Qc)))))))))
  (Qb (Q7 PassesOwn.never rfl (Qdk (by rfl) T.g_enumerate (Qa (pv 2) Qc)) (QcA rfl Zm.nd (i := 8) (j := 7) rfl rfl (Or.inl rfl) (Or.inl rfl))
  (Qe (Qk (qm M4_ (pv 4) T.cl hr (Qa (pv 8) (Qa (pv 7) Qc))))))
  (Qe (Qq (pv 4))))))), ?_⟩
 obtain ⟨ws, hw, htw⟩ := hs
 have hkl : (Qx bs).length = bs.length := by simp [Qx]
 have hnd : (bs.map (·.name)).Nodup := by rw [hnm]; exact (QcW _ _).imp fun z => Int.ne_of_lt z
 have hfl := QG pf
 refine ⟨_, rfl, ak, _, rfl, hk, _, rfl, _, _, rfl, rfl, _, rfl, as, _, rfl, .inl (SqL.of hw), fun x dx nx ndx nex => ?_⟩
 rw [hkl, ← QG htw]
 refine ⟨x, dx, _, _, rfl, Qd, by omega, by omega, fun A1 H1 hh1 fr1 tu1 gr1 => ⟨rfl, ?_⟩⟩
 have s1 : Same H H1 := fun b o e => fr1 b o (Qb5 (Zk e ndx) (Qf e nx)) (by simpa using Qf e nx)
 have f1 : ∀ b ∈ A1.foot x, H b = none := fun b hb => by
  rcases gr1 b hb with z | z
  ·rw [List.mem_singleton.mp z]; exact nx
  ·exact QaQ (QaQ z)
 have rk : ∀ {H' : Hp}, Same H H' → H' ak = some (.dK (Qx bs)) := fun s => s _ _ hk
 have rr : ∀ {H' : Hp}, Same H H' → H' ar = some (.dK (Qt bs fl)) := fun s => s _ _ hr'
 refine ⟨_, rfl, ak, _, QK 1 bs.length, rfl, rk s1, by rw [Zi, hnm], by rw [QJ]; exact h64, fun l ns' hl hp hs => ?_⟩
 rw [QcU hp hs (QcW _ _)]
 refine ⟨l, rfl, ⟨_, SqL.of Qd⟩, ?_⟩
 have s2 := s1.trans (Same.new (o := .lst ((QK 1 bs.length).map V.int)) hl)
 have hl0 : l ∉ A1.foot x := hh1.out hl
 have hh2 := hh1.new (o := .lst ((QK 1 bs.length).map V.int)) hl
 refine ZS (K := K) (xs := (QK 1 bs.length).map V.int) (fun i σ H' => ∃ v_name v_at v_thing v_slot A S, σ = [some (.ref ak), some (.ref ar), some (.ref as), some (.int extra), some (.ref x), v_name, v_at, v_thing, v_slot] ∧ Same H H' ∧ (∀ b ∈ HA.foot A x, H b = none) ∧
  H' l = some (.lst ((QK 1 bs.length).map V.int)) ∧ l ∉ HA.foot A x ∧ HouseAt C H' x A ⟨bs.length + extra, S, i, (bs.take i).map Box.blank, e4, e4⟩ ∧ S.length = ts.length) ?_ ?_ ?_ ?_
 ·exact ⟨_, _, _, _, A1, List.replicate (ts.length : Int).toNat .non, rfl, s2, f1, Qd, hl0, hh2, by simp⟩
 ·rintro i σ H' _ ⟨_, _, _, _, A, S, rfl, s, f, h, n, hh, hS⟩
  exact SqL.of h
 ·rintro i y σ H' hy ⟨v1, v2, v3, v4, A, S, rfl, s, f, h, n, hh, hS⟩
  obtain ⟨hi, rfl⟩ := QhI hy
  obtain ⟨b, hb⟩ : ∃ b, bs[i]? = some b := ⟨bs[i], List.getElem?_eq_getElem hi⟩
  obtain ⟨hbn, _⟩ := QkC hnm hb
  have hbo := hok b (List.mem_of_getElem? hb)
  obtain ⟨a, ha, vs, hv, htv⟩ := Zt pf hb
  rw [← hbn]
  have hlen := QG htv
  have hle := hbo.le
  refine ⟨_, rfl, x, A.dx, _, rfl, hh.ob, Qj, _, rfl, _, rfl, ak, .str b.kind, rfl, ?_, ?_⟩
  ·rw [← kindAt hnd hb]; exact DGet.k (k := Sum.inl b.name) (rk s)
  refine ⟨_, rfl, _, rfl, ar, .ref a, rfl, ?_, a, vs, rfl, .inl (SqL.of (s _ _ hv)), ?_⟩
  ·rw [← rowAt hfl hnd hb ha]; exact DGet.k (k := Sum.inl b.name) (rr s)
  rw [← hlen]
  have hsz := hbo.sz
  refine ⟨x, A, _, b.kind, b.row.length, 0, rfl, hh, by rw [hsz]; omega, by rw [hsz]; omega, by show ((bs.take i).map Box.blank).length ≤ 1000; rw [List.length_map, List.length_take]; omega, by show (((bs.take i).map Box.blank).length : Int) < bs.length + extra; rw [List.length_map, List.length_take]; omega, by show 0 < S.length; omega, fun A2 H2 hh2 fr2 tu2 gr2 => ?_⟩
  obtain ⟨g1, g2, g3, g4⟩ := Qe5 (C := C) (S := HS.empty 0 0) s f h n fr2 gr2
  refine ⟨_, _, _, _, A2, S.set 0 (.box ((i : Int) + 1)), rfl, g1, g2, g3, g4, ?_, ?_⟩
  ·rw [hsz] at hh2
   have e : (HS.made ⟨bs.length + extra, S, i, (bs.take i).map Box.blank, e4, e4⟩ b.kind (b.row.length : Int).toNat 0) = ⟨bs.length + extra, S.set 0 (.box ((i : Int) + 1)), ((i + 1 : Nat) : Int), (bs.take (i + 1)).map Box.blank, e4, e4⟩ := by
    rw [QjF bs i b hb]
    unfold HS.made HS.built
    simp only [Int.toNat_natCast, HS.mk.injEq, true_and]
    refine ⟨by omega, ?_, trivial⟩
    congr 1
    unfold Box.blank
    rw [hbn]
    congr 1
    congr 1
    omega
   rw [e] at hh2
   exact hh2
  ·simp [hS]
 ·rintro σ H3 ⟨v1, v2, v3, v4, A, S, rfl, s, f, h, n, hh, hS⟩
  have en : (((QK 1 bs.length).map V.int).length) = bs.length := by rw [List.length_map, QJ]
  rw [en, List.take_length] at hh
  refine ⟨_, rfl, ar, _, QK 1 bs.length, rfl, rr s, by rw [QaH hfl, hnm], by rw [QJ]; exact h64, fun l2 ns2 hl2 hp2 hs2 => ?_⟩
  rw [QcU hp2 hs2 (QcW _ _)]
  refine ⟨l2, rfl, ⟨_, SqL.of Qd⟩, ?_⟩
  have s4 := s.trans (Same.new (o := .lst ((QK 1 bs.length).map V.int)) hl2)
  have hl3 : l2 ∉ A.foot x := hh.out hl2
  have hh4 := hh.new (o := .lst ((QK 1 bs.length).map V.int)) hl2
  have h4 : (upd H3 l2 (.lst ((QK 1 bs.length).map V.int))) l2 = some (.lst ((QK 1 bs.length).map V.int)) := Qd
  generalize upd H3 l2 (.lst ((QK 1 bs.length).map V.int)) = H4 at s4 hh4 h4 ⊢
  refine ZS (K := K) (xs := (QK 1 bs.length).map V.int) (fun i σ H' => ∃ v_name v_at v_thing v_slot A S, σ = [some (.ref ak), some (.ref ar), some (.ref as), some (.int extra), some (.ref x), v_name, v_at, v_thing, v_slot] ∧ Same H H' ∧ (∀ b ∈ HA.foot A x, H b = none) ∧
   H' l2 = some (.lst ((QK 1 bs.length).map V.int)) ∧ l2 ∉ HA.foot A x ∧ HouseAt C H' x A ⟨bs.length + extra, S, bs.length, ZN bs i 0, e4, e4⟩ ∧ S.length = ts.length) ?_ ?_ ?_ ?_
  ·exact ⟨_, _, _, _, A, S, rfl, s4, f, h4, hl3, by rw [Qki]; exact hh4, hS⟩
  ·rintro i σ H' _ ⟨_, _, _, _, A, S, rfl, s, f, h, n, hh, hS⟩
   exact SqL.of h
  ·clear hS hh hh4 f n s s4 h4 h hl3 v1 v2 v3 v4
   rintro i y σ H' hy ⟨v1, v2, v3, v4, A, S, rfl, s, f, h, n, hh, hS⟩
   obtain ⟨hi, rfl⟩ := QhI hy
   obtain ⟨b, hb⟩ : ∃ b, bs[i]? = some b := ⟨bs[i], List.getElem?_eq_getElem hi⟩
   obtain ⟨hbn, _⟩ := QkC hnm hb
   have hbo := hok b (List.mem_of_getElem? hb)
   obtain ⟨a, ha, vs, hv, htv⟩ := Zt pf hb
   rw [← hbn]
   have hlen := QG htv
   refine ⟨_, rfl, _, rfl, ar, .ref a, rfl, ?_, a, vs, rfl, s _ _ hv, ?_⟩
   ·rw [← rowAt hfl hnd hb ha]; exact DGet.k (k := Sum.inl b.name) (rr s)
   refine QcY (xs := vs) (fun j σ H' => ∃ v_at v_thing v_slot A S, σ = [some (.ref ak), some (.ref ar), some (.ref as), some (.int extra), some (.ref x), some (.int b.name), v_at, v_thing, v_slot] ∧ Same H H' ∧ (∀ b ∈ HA.foot A x, H b = none) ∧
    H' l2 = some (.lst ((QK 1 bs.length).map V.int)) ∧ l2 ∉ HA.foot A x ∧ HouseAt C H' x A ⟨bs.length + extra, S, bs.length, ZN bs i j, e4, e4⟩ ∧ S.length = ts.length) ?_ ?_ ?_ ?_
   ·exact ⟨_, _, _, A, S, rfl, s, f, h, n, hh, hS⟩
   ·rintro j σ H' _ ⟨_, _, _, A, S, rfl, s, f, h, n, hh, hS⟩
    exact s _ _ hv
   ·clear hS hh f n s h v1 v2 v3 v4
    rintro j y σ H' q1 hy ⟨v1, v2, v3, A, S, rfl, s, f, h, n, hh, hS⟩ hq1
    obtain ⟨t, ht, tv⟩ := QM htv hy
    have hj := (List.getElem?_eq_some_iff.mp ht).1
    have s2 := s.trans (Same.new (o := .tup [.int (j : Int), y]) hq1)
    have hh2 := hh.new (o := .tup [.int (j : Int), y]) hq1
    have h2 := Zk (o := .tup [.int (j : Int), y]) h hq1
    have htu := (Qd (H := H') (a := q1) (o := .tup [.int (j : Int), y]))
    generalize upd H' q1 (.tup [.int (j : Int), y]) = H5 at s2 hh2 h2 htu ⊢
    refine ⟨q1, _, _, rfl, htu, ?_⟩
    refine ⟨_, rfl, x, A.dx, _, rfl, hh2.ob, Qj, _, rfl, _, rfl, _, rfl, x, A, _, i, ⟨b.name, b.kind, b.row.take j ++ List.replicate (b.row.length - j) .non⟩, j, y, t, rfl, hh2, QdG hb, ?_, tv.keep (Tups.of_same s2), ?_, fun A2 H2 hh3 fr2 tu2 gr2 => ?_⟩
    ·simp only [List.length_append, List.length_take, List.length_replicate]; omega
    ·intro n' e
     subst e
     have := hbo.ts _ (List.mem_of_getElem? ht)
     show n' ∈ (ZN bs i j).map (·.name)
     rw [Qic, hnm, ZG]
     exact ⟨this.1, by have := this.2; omega⟩
    obtain ⟨g1, g2, g3, g4⟩ := Qe5 (C := C) (S := HS.empty 0 0) s2 f h2 n fr2 gr2
    have e : HS.put ⟨bs.length + extra, S, bs.length, ZN bs i j, e4, e4⟩ i j t = ⟨bs.length + extra, S, bs.length, ZN bs i (j + 1), e4, e4⟩ := by
     unfold HS.put
     simp only [Qjk hb ht]
    rw [e] at hh3
    exact ⟨_, _, _, A2, S, rfl, g1, g2, g3, g4, hh3, hS⟩
   ·rintro σ H' ⟨v1, v2, v3, A, S, rfl, s, f, h, n, hh, hS⟩
    rw [← hlen, Qib hb] at hh
    exact ⟨_, _, _, _, A, S, rfl, s, f, h, n, hh, hS⟩
  ·clear hS hh hh4 f n s s4 h4 h hl3 v1 v2 v3 v4
   rintro σ H' ⟨v1, v2, v3, v4, A, S, rfl, s, f, h, n, hh, hS⟩
   rw [en, Qjl] at hh
   refine ⟨_, rfl, as, ws, rfl, s _ _ hw, ?_⟩
   refine QcY (xs := ws) (fun j σ H' => ∃ v_name v_at v_thing v_slot A, σ = [some (.ref ak), some (.ref ar), some (.ref as), some (.int extra), some (.ref x), v_name, v_at, v_thing, v_slot] ∧ Same H H' ∧ (∀ b ∈ HA.foot A x, H b = none) ∧
    H' l2 = some (.lst ((QK 1 bs.length).map V.int)) ∧ l2 ∉ HA.foot A x ∧ HouseAt C H' x A ⟨bs.length + extra, ts.take j ++ S.drop j, bs.length, bs, e4, e4⟩) ?_ ?_ ?_ ?_
   ·exact ⟨_, _, _, _, A, rfl, s, f, h, n, by simpa using hh⟩
   ·rintro j σ H' _ ⟨_, _, _, _, A, rfl, s, f, h, n, hh⟩
    exact s _ _ hw
   ·clear hh f n s h v1 v2 v3 v4
    rintro j y σ H' q1 hy ⟨v1, v2, v3, v4, A, rfl, s, f, h, n, hh⟩ hq1
    obtain ⟨t, ht, tv⟩ := QM htw hy
    have hj := (List.getElem?_eq_some_iff.mp ht).1
    have s2 := s.trans (Same.new (o := .tup [.int (j : Int), y]) hq1)
    have hh2 := hh.new (o := .tup [.int (j : Int), y]) hq1
    have h2 := Zk (o := .tup [.int (j : Int), y]) h hq1
    have htu := (Qd (H := H') (a := q1) (o := .tup [.int (j : Int), y]))
    generalize upd H' q1 (.tup [.int (j : Int), y]) = H5 at s2 hh2 h2 htu ⊢
    refine ⟨q1, _, _, rfl, htu, ?_⟩
    refine ⟨_, rfl, x, A.dx, _, rfl, hh2.ob, Qj, _, rfl, _, rfl, x, A, _, j, y, t, rfl, hh2, ?_, tv.keep (Tups.of_same s2), ?_, fun A2 H2 hh3 fr2 tu2 gr2 => ?_⟩
    ·simp only [List.length_append, List.length_take, List.length_drop]; omega
    ·intro n' e
     subst e
     have := hts _ (List.mem_of_getElem? ht)
     show n' ∈ bs.map (·.name)
     rw [hnm, ZG]
     exact ⟨this.1, by have := this.2; omega⟩
    obtain ⟨g1, g2, g3, g4⟩ := Qe5 (C := C) (S := HS.empty 0 0) s2 f h2 n fr2 gr2
    have e : HS.hold ⟨bs.length + extra, ts.take j ++ S.drop j, bs.length, bs, e4, e4⟩ j t = ⟨bs.length + extra, ts.take (j + 1) ++ S.drop (j + 1), bs.length, bs, e4, e4⟩ := by
     unfold HS.hold
     simp only [QdA ht (show j < S.length by omega)]
    rw [e] at hh3
    exact ⟨_, _, _, _, A2, rfl, g1, g2, g3, g4, hh3⟩
   ·rintro σ H' ⟨v1, v2, v3, v4, A, rfl, s, f, h, n, hh⟩
    have e : ts.take ws.length ++ S.drop ws.length = ts := by
     rw [← QG htw, List.take_length, List.drop_eq_nil_of_le (by omega), List.append_nil]
    rw [e] at hh
    exact ⟨_, rfl, q x A H' s hh f⟩
theorem Qil (F : Fun K "_law_as" "_law_as" Qeb f fd) (T : TX K mg C) (D1_ : DefOk P w K mg base n "_law_names" ["found", "due"] (QgE K) [[]])
  (M2_ : MethOk P w K mg base C n "names" ["self"] (Qea C) [[]])
  (D3_ : DefOk P w K mg base n "_law_whole" ["found"] (QgC) [[]])
  (M4_ : MethOk P w K mg base C n "size" ["self", "name"] (Qhl C) [[]])
  (M5_ : MethOk P w K mg base C n "kind" ["self", "name"] (Qe6 C) [[]])
  (D6_ : DefOk P w K mg base n "_law_same" ["found", "due"] (Ql5) [[]])
  (M7_ : MethOk P w K mg base C n "field" ["self", "name", "at"] (Qcj C) [[]])
  (M8_ : MethOk P w K mg base C n "held" ["self", "slot"] (Qka C) [[]]) :
  FnOk P w K mg base CX0 (n + 1) f fd ["house", "kinds", "rows", "slots"] (spAs C) := by
 refine F.ok QbR (by rintro _ _ _ _ ⟨_, _, _, _, _, _, _, rfl, _⟩; rfl) fun _ _ _ s H vs Q E hr h => ?_
 obtain ⟨p, ak, ar, as, A', S, fl, rfl, hh, hk, hr', pf, hs, h64, q⟩ := h
 have hu := Qu hr
 refine ⟨_, (Qb (QA (Qbm (QaD (qc D1_ hr (Qa (qm0 M2_ (pv 0) T.cl hr) (Qa (Qo (QaI hr.hd) (by rfl) T.g_sorted PyProof.Rows.boot_sorted (Qa (pv 1) Qc)) Qc))))) (Qe (Qq Qce)) Qn)
  (Qb (Q7 PassesOwn.never rfl (QQ (Qo (QaI hr.hd) (by rfl) T.g_sorted PyProof.Rows.boot_sorted (Qa (pv 1) Qc))) (QR (i := 4) QbR.nd rfl (Or.inl rfl))
  (Qb (QA (PW.pt (QeH (Qp Qkw (qm M5_ (pv 0) T.cl hr (Qa (pv 4) Qc)) (Qao hu (pv 1) (pv 4) (fun _ _ => rfl)) (Qv _)) (Qcc (Qbm (QaD (qc D3_ hr (Qa (qm M4_ (pv 0) T.cl hr (Qa (pv 4) Qc)) Qc))))))) (Qe (Qq Qce)) Qn)
  (Qb (QA (Qp Qkw (qm M4_ (pv 0) T.cl hr (Qa (pv 4) Qc)) (Qo Qs (by rfl) T.g_len PySem.boot_len (Qa (Qao hu (pv 2) (pv 4) (fun _ _ => rfl)) Qc)) (Qv _)) (Qe (Qq Qce)) Qn)
  (Qe (Q7 PassesOwn.never rfl (Qdk (by rfl) T.g_enumerate (Qa (Qao hu (pv 2) (pv 4) (fun _ _ => rfl)) Qc)) (QcA rfl QbR.nd (i := 5) (j := 6) rfl rfl (Or.inl rfl) (Or.inl rfl))
  (Qe (QA (Qbm (QaD (qc D6_ hr (Qa (qm M7_ (pv 0) T.cl hr (Qa (pv 4) (Qa (pv 5) Qc))) (Qa (pv 6) Qc))))) (Qe (Qq Qce)) Qn)))))))
  (Qb (Q7 PassesOwn.never rfl (Qdk (by rfl) T.g_enumerate (Qa (pv 3) Qc)) (QcA rfl QbR.nd (i := 7) (j := 6) rfl rfl (Or.inl rfl) (Or.inl rfl))
  (Qe (QA (Qbm (QaD (qc D6_ hr (Qa (qm M8_ (pv 0) T.cl hr (Qa (pv 7) Qc)) (Qa (pv 6) Qc))))) (Qe (Qq Qce)) Qn)))
  (Qe (Qq Qce))))), ?_⟩
 obtain ⟨ws, hw, htw⟩ := hs
 have hfl := QG pf
 have hnd := hh.nm
 have hnl : (names S).length = S.boxes.length := by simp [names]
 have hns : ((names S).map V.int).length = S.boxes.length := by simp [names]
 refine ⟨_, rfl, p, A'.dx, _, rfl, hh.ob, Qj, p, A', S, rfl, hh, h64, fun l hl => ?_⟩
 refine ⟨_, rfl, ak, _, names S, rfl, Zk hk hl, Zi _, by omega, fun l2 ns' hl2 hp hs => ?_⟩
 rw [QcU hp hs hh.asc]
 refine ⟨l, l2, names S, rfl, Zk Qd hl2, SqL.of Qd, by omega, _, rfl, Qbg ?_⟩
 have s1 : Same H (upd (upd H l (.lst ((names S).map V.int))) l2 (.lst ((names S).map V.int))) := (Same.new hl).trans (Same.new hl2)
 generalize upd (upd H l (.lst ((names S).map V.int))) l2 (.lst ((names S).map V.int)) = H1 at s1 ⊢
 refine ⟨_, rfl, ak, _, names S, rfl, s1 _ _ hk, Zi _, by omega, fun l3 ns3 hl3 hp3 hs3 => ?_⟩
 rw [QcU hp3 hs3 hh.asc]
 refine ⟨l3, rfl, ⟨_, SqL.of Qd⟩, ?_⟩
 have s2 : Same H (upd H1 l3 (.lst ((names S).map V.int))) := s1.trans (Same.new hl3)
 have h3 : (upd H1 l3 (.lst ((names S).map V.int))) l3 = some (.lst ((names S).map V.int)) := Qd
 generalize upd H1 l3 (.lst ((names S).map V.int)) = H2 at s2 h3 ⊢
 refine ZS (K := K) (xs := (names S).map V.int) (fun i σ H' => ∃ v_name v_at v_thing v_slot, σ = [some (.ref p), some (.ref ak), some (.ref ar), some (.ref as), v_name, v_at, v_thing, v_slot] ∧ Same H2 H') ?_ ?_ ?_ ?_
 ·exact ⟨_, _, _, _, rfl, Same.refl _⟩
 ·rintro i σ H' _ ⟨_, _, _, _, rfl, s⟩
  exact SqL.of (s _ _ h3)
 ·rintro i y σ H' hy ⟨v1, v2, v3, v4, rfl, s⟩
  obtain ⟨b, hb, rfl⟩ : ∃ b, S.boxes[i]? = some b ∧ y = .int b.name := by
   rw [List.getElem?_map, names, List.getElem?_map] at hy
   cases e : S.boxes[i]? with
   | none => rw [e] at hy; cases hy
   | some b => rw [e] at hy; exact ⟨b, rfl, (Option.some.inj hy).symm⟩
  have s' := s2.trans s
  have hh' := hh.same s'
  obtain ⟨a, ha, vs, hv, htv⟩ := Zt pf hb
  refine ⟨_, rfl, p, A'.dx, _, rfl, hh'.ob, Qj, _, rfl, p, A', S, i, b, rfl, hh', hb, _, rfl, _, rfl, ak, .str b.kind, rfl, ?_, rfl, _, rfl, QkN rfl ?_⟩
  ·rw [← kindAt hnd hb]; exact DGet.k (k := Sum.inl b.name) (s' _ _ hk)
  refine ⟨_, rfl, p, A'.dx, _, rfl, hh'.ob, Qj, _, rfl, p, A', S, i, b, rfl, hh', hb, _, rfl, _, rfl, Qbg ?_⟩
  refine ⟨_, rfl, p, A'.dx, _, rfl, hh'.ob, Qj, _, rfl, p, A', S, i, b, rfl, hh', hb, _, rfl, _, rfl, ar, .ref a, rfl, ?_, a, vs, rfl, .inl (SqL.of (s' _ _ hv)), rfl, _, rfl, QkN (by rw [QG htv]) ?_⟩
  ·rw [← rowAt hfl hnd hb ha]; exact DGet.k (k := Sum.inl b.name) (s' _ _ hr')
  refine ⟨_, rfl, _, rfl, ar, .ref a, rfl, ?_, a, vs, rfl, s' _ _ hv, ?_⟩
  ·rw [← rowAt hfl hnd hb ha]; exact DGet.k (k := Sum.inl b.name) (s' _ _ hr')
  refine QcY (xs := vs) (fun j σ H' => ∃ v_at v_thing v_slot, σ = [some (.ref p), some (.ref ak), some (.ref ar), some (.ref as), some (.int b.name), v_at, v_thing, v_slot] ∧ Same H2 H') ?_ ?_ ?_ ?_
  ·exact ⟨_, _, _, rfl, s⟩
  ·rintro j σ H' _ ⟨_, _, _, rfl, s⟩
   exact (s2.trans s) _ _ hv
  ·clear s s' hh' v1 v2 v3 v4
   rintro j y σ H' q1 hy ⟨v1, v2, v3, rfl, s⟩ hq1
   obtain ⟨t, ht, tv⟩ := QM htv hy
   have s3 := (s2.trans s).trans (Same.new (o := .tup [.int (j : Int), y]) hq1)
   have hh3 := hh.same s3
   refine ⟨q1, _, _, rfl, Qd, ?_⟩
   refine ⟨_, rfl, p, A'.dx, _, rfl, hh3.ob, Qj, _, rfl, _, rfl, p, A', S, i, b, j, t, rfl, hh3, hb, ht, fun v hv' => ?_⟩
   exact ⟨_, rfl, v, y, t, rfl, hv', tv.keep (Tups.of_same s3), _, rfl, Qbg ⟨_, _, _, rfl, s.trans (Same.new hq1)⟩⟩
  ·rintro σ H' ⟨v1, v2, v3, rfl, s⟩
   exact ⟨_, _, _, _, rfl, s⟩
 ·rintro σ H' ⟨v1, v2, v3, v4, rfl, s⟩
  refine ⟨_, rfl, as, ws, rfl, (s2.trans s) _ _ hw, ?_⟩
  refine QcY (xs := ws) (fun j σ H' => ∃ v_name v_at v_thing v_slot, σ = [some (.ref p), some (.ref ak), some (.ref ar), some (.ref as), v_name, v_at, v_thing, v_slot] ∧ Same H2 H') ?_ ?_ ?_ ?_
  ·exact ⟨_, _, _, _, rfl, s⟩
  ·rintro j σ H' _ ⟨_, _, _, _, rfl, s⟩
   exact (s2.trans s) _ _ hw
  ·clear s v1 v2 v3 v4
   rintro j y σ H' q1 hy ⟨v1, v2, v3, v4, rfl, s⟩ hq1
   obtain ⟨t, ht, tv⟩ := QM htw hy
   have s3 := (s2.trans s).trans (Same.new (o := .tup [.int (j : Int), y]) hq1)
   have hh3 := hh.same s3
   refine ⟨q1, _, _, rfl, Qd, ?_⟩
   refine ⟨_, rfl, p, A'.dx, _, rfl, hh3.ob, Qj, _, rfl, p, A', S, j, t, rfl, hh3, ht, fun v hv' => ?_⟩
   exact ⟨_, rfl, v, y, t, rfl, hv', tv.keep (Tups.of_same s3), _, rfl, Qbg ⟨_, _, _, _, rfl, s.trans (Same.new hq1)⟩⟩
  ·rintro σ H' ⟨v1, v2, v3, v4, rfl, s⟩
   exact q _ (s2.trans s)
end
section
variable {C : Addr}
theorem QeK (F : Fun K "watch" "House.watch" Z6 f fd) (T : TX K mg C) (M1_ : MethOk P w K mg base C n "check_guard" ["self", "guard"] (Qay C) [[]])
  (M2_ : MethOk P w K mg base C n "check_box" ["self", "name"] (Zl C) [[]]) :
  FnOk P w K mg base CX0 (n + 1) f fd ["self", "guard", "name"] (QjX C) := by
 refine F.ok Qca (by rintro _ _ _ _ ⟨_, _, _, _, _, _, rfl, _⟩; rfl) fun _ _ _ s H vs Q E hr h => ?_
 obtain ⟨p, A', S, g, n', ns, rfl, hh, hg, hq, hn, hnot, hlen, k⟩ := h
 have hu := Qu hr
 refine ⟨_, (Qb (Qk (qm M1_ (pv 0) T.cl hr (Qa (pv 1) Qc)))
  (Qb (Qk (qm M2_ (pv 0) T.cl hr (Qa (pv 2) Qc)))
  (Qb (QA (Qp Qkx (pv 2) (Zf QN (QB (pv 0) rfl) (pv 1) (fun _ _ => rfl)) rfl) (Qe QdI) Qn)
  (Qe (Qk (Qfp PySem.F.plainAttrs_list PySem.F.slot_list_append PySem.F.type_list_append QaG (Zf QN (QB (pv 0) rfl) (pv 1) (fun _ _ => rfl)) (Qa (pv 2) Qc))))))), ?_⟩
 obtain ⟨a, ha, hi⟩ := Zt hh.ql hq
 have hix : atI (A'.ql.map V.ref) (g : Int) = some (.ref a) := QZ (by rw [List.getElem?_map, ha]; rfl)
 refine ⟨_, rfl, p, A'.dx, _, rfl, hh.ob, Qj, _, rfl, p, g, rfl, by omega, by omega, ?_⟩
 refine ⟨_, rfl, p, A'.dx, _, rfl, hh.ob, Qj, _, rfl, p, A', S, n', rfl, hh, hn, ?_⟩
 refine ⟨_, rfl, _, rfl, p, C, A'.dx, _, _, rfl, hh.ob, T.cl, T.n_queues, QdY, _, rfl, A'.qs, _, g, .ref a, rfl, rfl, SqL.of hh.qs, hix, a, _, rfl, .inl (SqL.of hi), rfl, QcJ ns, _, rfl, iteB ?_ ?_⟩
 ·show inV (.int n') (ns.map V.int) = false
  rw [QdX]; exact decide_eq_false hnot
 refine ⟨_, rfl, p, C, A'.dx, _, _, rfl, hh.ob, T.cl, T.n_queues, QdY, _, rfl, A'.qs, _, g, .ref a, rfl, rfl, SqL.of hh.qs, hix, .inl ⟨rfl, _, SqL.of hi⟩, _, rfl, a, _, _, rfl, rfl, hi, by rw [List.length_map]; exact QO (by omega), ?_⟩
 have e : ns.map V.int ++ [V.int n'] = (ns ++ [n']).map V.int := by simp
 rw [e]
 exact hh.outOne (by simp [HA.lists, List.mem_of_getElem? ha]) hi (hh.setQueue ha hi) k
theorem QeJ (F : Fun K "words" "House.words" Qa5 f fd) (T : TX K mg C) (M1_ : MethOk P w K mg base C n "check_guard" ["self", "guard"] (Qay C) [[]]) :
  FnOk P w K mg base CX0 (n + 1) f fd ["self", "guard"] (Qh7 C) := by
 refine F.ok QeD (by rintro _ _ _ _ ⟨_, _, _, _, _, rfl, _⟩; rfl) fun _ _ _ s H vs Q E hr h => ?_
 obtain ⟨p, A', S, g, ns, rfl, hh, hg, hq, k⟩ := h
 have hu := Qu hr
 refine ⟨_, (Qb (Qk (qm M1_ (pv 0) T.cl hr (Qa (pv 1) Qc)))
  (Qe (Qq (QdJ Qez (by rfl) T.g_list PyProof.Rows.boot_list (Qa (Zf QN (QB (pv 0) rfl) (pv 1) (fun _ _ => rfl)) Qc))))), ?_⟩
 obtain ⟨a, ha, hi⟩ := Zt hh.tl hq
 refine ⟨_, rfl, p, A'.dx, _, rfl, hh.ob, Qj, _, rfl, p, g, rfl, by omega, by omega, ?_⟩
 refine ⟨_, rfl, p, C, A'.dx, _, _, rfl, hh.ob, T.cl, T.n_told, Qg5, _, rfl, A'.td, _, g, .ref a, rfl, rfl, SqL.of hh.td, QZ (by rw [List.getElem?_map, ha]; rfl), a, _, rfl, .inl (SqL.of hi), k⟩
end
section
variable {C : Addr}
theorem Qf5 (F : Fun K "_law_waits" "_law_waits" QbU f fd) (T : TX K mg C) (D1_ : DefOk P w K mg base n "_law_draw" ["script", "k"] (Qdf K) [[]]) :
  FnOk P w K mg base CX0 (n + 1) f fd ["script", "many"] (QjY K) := by
 refine F.ok ZM (by rintro _ _ _ _ ⟨_, _, _, rfl, _⟩; rfl) fun _ _ _ s H vs Q E hr h => ?_
 obtain ⟨a, ns, many, rfl, hS, hm, q⟩ := h
 have hu := Qu hr
 refine ⟨_, (Qb (Qw (i := 2) ZM.nd rfl (Or.inl rfl) (Zu (Qa (Zu Qc) (Qa (Zu Qc) (Qa (Zu Qc) (Qa (Zu Qc) Qc))))))
  (Qb (Q7 PassesOwn.never rfl (QL (by rfl) T.g_range (Qa (QE Zb (qc D1_ hr (Qa (pv 0) (Qa Qi Qc))) Qi) Qc)) (QR (i := 3) ZM.nd rfl (Or.inl rfl))
  (Qb (Qw (i := 4) ZM.nd rfl (Or.inl rfl) (qc D1_ hr (Qa (pv 0) (Qa (QE Qah Qi (pv 3)) Qc))))
  (Qb (Qw (i := 5) ZM.nd rfl (Or.inl rfl) (QE Qah Qi (QE Zb (QE QcC (pv 4) Qi) (pv 1))))
  (Qe (QA (Qp Qbo (pv 5) (Zf QN (pv 2) (QE Zb (pv 4) Qi) (fun _ _ => rfl)) rfl) (Qe (Qk (Qfp PySem.F.plainAttrs_list PySem.F.slot_list_append PySem.F.type_list_append QaG (Zf QN (pv 2) (QE Zb (pv 4) Qi) (fun _ _ => rfl)) (Qa (pv 5) Qc)))) Qn)))))
  (Qe (Qq (pv 2))))), ?_⟩
 refine ⟨Nat.zero_le _, fun a0 h0 => ⟨Nat.zero_le _, fun a1 h1 => ⟨Nat.zero_le _, fun a2 h2 => ⟨Nat.zero_le _, fun a3 h3 => ⟨zl, fun l hl => ?_⟩⟩⟩⟩⟩
 have n10 := Qf (Qd (H := H) (a := a0) (o := .lst [])) h1
 have n20 := Qf (Zk (o := .lst []) (Qd (H := H) (a := a0) (o := .lst [])) h1) h2
 have n21 := Qf (Qd (H := upd H a0 (.lst [])) (a := a1) (o := .lst [])) h2
 have f1 : H a1 = none := QaQ h1
 have f2 : H a2 = none := QaQ (QaQ h2)
 have f3 : H a3 = none := QaQ (QaQ (QaQ h3))
 have fl : H l = none := QaQ (QaQ (QaQ (QaQ hl)))
 have s4 : Same H (upd (upd (upd (upd H a0 (.lst [])) a1 (.lst [])) a2 (.lst [])) a3 (.lst [])) := ((((Same.new h0).trans (Same.new h1)).trans (Same.new h2)).trans (Same.new h3))
 have g3 : (upd (upd (upd (upd H a0 (.lst [])) a1 (.lst [])) a2 (.lst [])) a3 (.lst [])) a3 = some (.lst []) := Qd
 have g2 : (upd (upd (upd (upd H a0 (.lst [])) a1 (.lst [])) a2 (.lst [])) a3 (.lst [])) a2 = some (.lst []) := Zk Qd h3
 have g1 : (upd (upd (upd (upd H a0 (.lst [])) a1 (.lst [])) a2 (.lst [])) a3 (.lst [])) a1 = some (.lst []) := Zk (Zk Qd h2) h3
 have g0 : (upd (upd (upd (upd H a0 (.lst [])) a1 (.lst [])) a2 (.lst [])) a3 (.lst [])) a0 = some (.lst []) := Zk (Zk (Zk Qd h1) h2) h3
 have n30 : a0 ≠ a3 := Qf (Zk (Zk Qd h1) h2) h3
 have n31 : a1 ≠ a3 := Qf (Zk Qd h2) h3
 have n32 : a2 ≠ a3 := Qf Qd h3
 generalize upd (upd (upd (upd H a0 (.lst [])) a1 (.lst [])) a2 (.lst [])) a3 (.lst []) = H4 at s4 g0 g1 g2 g3 hl ⊢
 have m0 := Qf g0 hl
 have m1 := Qf g1 hl
 have m2 := Qf g2 hl
 have m3 := Qf g3 hl
 refine ⟨_, rfl, a, ns, 800, rfl, hS.keep (Frz.of_same (s4.trans (Same.new hl))), _, _, rfl, rfl, (by show (0 : Int) < 9; decide), ?_⟩
 have hd := drw_nn ns 800
 refine ⟨drw ns 800 % 9, rfl, by omega, by omega, ?_⟩
 refine ZP (n := (drw ns 800 % 9).toNat) (fun i σ H' => ∃ v_k v_cell v_name, σ = [some (.ref a), some (.int many), some (.ref l), v_k, v_cell, v_name] ∧ Same H H' ∧ ∃ xss, LlsNew H H' l xss ∧ xss.length = 4 ∧ ∀ xs ∈ xss, xs.Nodup ∧ xs.length ≤ i ∧ ∀ n ∈ xs, 1 ≤ n ∧ n ≤ many) ?_ ?_ ?_
 ·refine ⟨_, _, _, rfl, s4.trans (Same.new hl), [[], [], [], []], ⟨[a0, a1, a2, a3], ⟨Qd, .cons (Zk g0 hl) (.cons (Zk g1 hl) (.cons (Zk g2 hl) (.cons (Zk g3 hl) .nil)))⟩, ?_, ?_⟩, rfl, ?_⟩
  ·simp only [List.nodup_cons, List.mem_cons, List.not_mem_nil, or_false, not_or, List.nodup_nil, not_false_eq_true, and_true]
   exact ⟨⟨m0.symm, m1.symm, m2.symm, m3.symm⟩, ⟨n10, n20, n30⟩, ⟨n21, n31⟩, n32⟩
  ·intro b hb
   have hb : b = l ∨ b = a0 ∨ b = a1 ∨ b = a2 ∨ b = a3 := by simpa using hb
   rcases hb with rfl | rfl | rfl | rfl | rfl <;> assumption
  ·intro xs hx
   have hx : xs = [] := by simpa using hx
   subst hx
   simp
 ·rintro i σ H' hi ⟨v1, v2, v3, rfl, s, xss, ⟨al, ⟨hw, hp⟩, nd, fr⟩, hlen, hok⟩
  refine ⟨_, rfl, _, rfl, _, _, rfl, rfl, a, ns, _, rfl, hS.keep (Frz.of_same s), ?_⟩
  generalize drw ns (801 + (0 + (i : Int))) = c
  refine ⟨_, rfl, _, _, rfl, rfl, ⟨by decide, by decide⟩, _, rfl, _, _, rfl, rfl, (by show (0 : Int) < many; omega), _, _, rfl, rfl, ?_⟩
  have h5 := Int.emod_nonneg (c / 4) (show many ≠ 0 by omega)
  have h6 := Int.emod_lt_of_pos (c / 4) (show (0 : Int) < many by omega)
  obtain ⟨g, hg⟩ : ∃ g : Nat, c % 4 = (g : Int) := ⟨(c % 4).toNat, by omega⟩
  have hg4 : g < xss.length := by omega
  obtain ⟨xs, hxs⟩ : ∃ xs, xss[g]? = some xs := ⟨xss[g], List.getElem?_eq_getElem hg4⟩
  obtain ⟨b, hb, hib⟩ := Zt hp hxs
  have hix : atI (al.map V.ref) (c % 4) = some (.ref b) := by rw [hg]; exact QZ (by rw [List.getElem?_map, hb]; rfl)
  have hxo := hok xs (List.mem_of_getElem? hxs)
  refine ⟨_, rfl, _, rfl, _, rfl, _, _, rfl, rfl, (by show (0 : Int) < 4; decide), l, _, _, .ref b, rfl, rfl, SqL.of hw, hix, b, _, rfl, .inl (SqL.of hib), rfl, QcJ xs, _, rfl, Qgr (fun hin => ?_) (fun _ => ?_)⟩
  ·have hin : inV (.int (1 + c / 4 % many)) (xs.map V.int) = false := by simpa using hin
   rw [QdX] at hin
   have hin := of_decide_eq_false hin
   refine ⟨_, rfl, _, rfl, _, _, rfl, rfl, (by show (0 : Int) < 4; decide), l, _, _, .ref b, rfl, rfl, SqL.of hw, hix, .inl ⟨rfl, _, SqL.of hib⟩, _, rfl, b, _, _, rfl, rfl, hib, by rw [List.length_map]; exact QO (by omega), ?_⟩
   have hbm := List.mem_of_getElem? hb
   have e : xs.map V.int ++ [V.int (1 + c / 4 % many)] = (xs ++ [1 + c / 4 % many]).map V.int := by simp
   rw [e]
   refine ⟨_, _, _, rfl, fun x o q => ?_, xss.set g (xs ++ [1 + c / 4 % many]), ⟨al, ⟨?_, Qip hp (List.nodup_cons.mp nd).2 hb Qd (fun c _ n => Qh n)⟩, nd, fr⟩, by simp [hlen], fun ys hy => ?_⟩
   ·rw [Qh (Qf q (fr b (by simp [hbm])))]; exact s _ _ q
   ·rw [Qh (show l ≠ b from fun q => (List.nodup_cons.mp nd).1 (by rw [q]; exact hbm))]; exact hw
   ·rcases List.mem_or_eq_of_mem_set hy with z | rfl
    ·exact ⟨(hok ys z).1, by have := (hok ys z).2.1; omega, (hok ys z).2.2⟩
    ·refine ⟨QcF hxo.1 hin, by simp; omega, fun m hm => ?_⟩
     rcases List.mem_append.mp hm with z | z
     ·exact hxo.2.2 m z
     ·rw [List.mem_singleton.mp z]; omega
  ·exact ⟨_, _, _, rfl, s, xss, ⟨al, ⟨hw, hp⟩, nd, fr⟩, hlen, fun ys hy => ⟨(hok ys hy).1, by have := (hok ys hy).2.1; omega, (hok ys hy).2.2⟩⟩
 ·rintro σ H' ⟨v1, v2, v3, rfl, s, xss, hL, hlen, hok⟩
  exact ⟨_, rfl, q l xss H' s hL hlen fun ys hy => ⟨(hok ys hy).1, by have := (hok ys hy).2.1; omega, (hok ys hy).2.2⟩⟩
theorem QeP (F : Fun K "_law_watched" "_law_watched" Qa9 f fd) (T : TX K mg C) (M1_ : MethOk P w K mg base C n "watch" ["self", "guard", "name"] (QjX C) [[]]) :
  FnOk P w K mg base CX0 (n + 1) f fd ["house", "waits"] (Qhk C) := by
 refine F.ok QaN (by rintro _ _ _ _ ⟨_, _, _, _, _, _, rfl, _⟩; rfl) fun _ _ _ s H vs Q E hr h => ?_
 obtain ⟨p, w, A', S, al, xss, rfl, hh, ⟨hw, hp⟩, hout, hq0, hlen, hok, k⟩ := h
 have hu := Qu hr
 refine ⟨_, (Qe (Q7 PassesOwn.never rfl (QL (by rfl) T.g_range (Qa Qi Qc)) (QR (i := 2) QaN.nd rfl (Or.inl rfl))
  (Qe (Q7 PassesOwn.never rfl (QQ (Zf QN (pv 1) (pv 2) (fun _ _ => rfl))) (QR (i := 3) QaN.nd rfl (Or.inl rfl))
  (Qe (Qk (qm M1_ (pv 0) T.cl hr (Qa (pv 2) (Qa (pv 3) Qc))))))))), ?_⟩
 refine ⟨4, rfl, by decide, by decide, ?_⟩
 refine ZP (n := 4) (fun i σ H' => ∃ v_guard v_name A1, σ = [some (.ref p), some (.ref w), v_guard, v_name] ∧ Upto C H p A' H' A1 { S with queues := xss.take i ++ S.queues.drop i }) ?_ ?_ ?_
 ·exact ⟨_, _, A', rfl, by simpa using Upto.refl hh⟩
 ·rintro i σ H1 hi ⟨v1, v2, A1, rfl, u⟩
  obtain ⟨xs, hxs⟩ : ∃ xs, xss[i]? = some xs := ⟨xss[i], List.getElem?_eq_getElem (by omega)⟩
  obtain ⟨b, hb, hib⟩ := Zt hp hxs
  have hbm := List.mem_of_getElem? hb
  have hxo := hok xs (List.mem_of_getElem? hxs)
  have hw1 := (u.keep hw (hout w (by simp))).1
  have hb0 := u.keep hib (hout b (by simp [hbm]))
  have e0 : (0 : Int) + (i : Int) = (i : Int) := Int.zero_add _
  rw [e0]
  have hql : (S.queues).length = 4 := by rw [hq0]; rfl
  have hqi : S.queues[i]? = some [] := by
   rw [hq0]
   rcases i with _ | _ | _ | _ | _
   ·rfl
   ·rfl
   ·rfl
   ·rfl
   ·omega
  refine ⟨_, rfl, _, rfl, w, _, i, .ref b, rfl, rfl, SqL.of hw1, QZ (by rw [List.getElem?_map, hb]; rfl), b, rfl, ⟨_, SqL.of hb0.1⟩, ?_⟩
  refine ZS (K := K) (xs := xs.map V.int) (fun j σ H' => ∃ v_name A1, σ = [some (.ref p), some (.ref w), some (.int i), v_name] ∧ Upto C H p A' H' A1 { S with queues := (xss.take i ++ S.queues.drop i).set i (xs.take j) }) ?_ ?_ ?_ ?_
  ·refine ⟨_, A1, rfl, ?_⟩
   have e : (xss.take i ++ S.queues.drop i).set i (xs.take 0) = xss.take i ++ S.queues.drop i := by
    refine List.ext_getElem? fun m => ?_
    rw [List.getElem?_set]
    by_cases z : i = m
    ·subst z
     have hl : i < (xss.take i ++ S.queues.drop i).length := by simp; omega
     rw [if_pos rfl, if_pos hl, List.getElem?_append_right (by simp; omega)]
     simp only [List.take_zero, List.length_take, List.getElem?_drop]
     rw [show i + (i - min i xss.length) = i by omega, hqi]
    ·rw [if_neg z]
   rw [e]; exact u
  ·rintro j σ H2 _ ⟨v, A2, rfl, u2⟩
   exact SqL.of (u2.keep hib (hout b (by simp [hbm]))).1
  ·rintro j y σ H2 hy ⟨v, A2, rfl, u2⟩
   obtain ⟨m, hm, rfl⟩ : ∃ m, xs[j]? = some m ∧ y = .int m := by
    rw [List.getElem?_map] at hy
    cases e : xs[j]? with
    | none => rw [e] at hy; cases hy
    | some m => rw [e] at hy; exact ⟨m, rfl, (Option.some.inj hy).symm⟩
   have hj := (List.getElem?_eq_some_iff.mp hm).1
   have hli : i < (xss.take i ++ S.queues.drop i).length := by simp; omega
   have hqu : ((xss.take i ++ S.queues.drop i).set i (xs.take j))[i]? = some (xs.take j) := by rw [List.getElem?_set, if_pos rfl, if_pos hli]
   refine ⟨_, rfl, p, A2.dx, _, rfl, u2.hh.ob, Qj, _, rfl, _, rfl, p, A2, _, i, m, xs.take j, rfl, u2.hh, by omega, hqu, hxo.2.2 m (List.mem_of_getElem? hm), ?_, by rw [List.length_take]; have := hxo.2.1; omega, fun A3 H3 hh3 fr3 tu3 gr3 => ?_⟩
   ·intro hmem
    obtain ⟨j2, hj2⟩ := List.getElem?_of_mem hmem
    have hlt := (List.getElem?_eq_some_iff.mp hj2).1
    rw [List.length_take] at hlt
    rw [List.getElem?_take_of_lt (by omega)] at hj2
    have := QbK hxo.1 hj2 hm
    omega
   have e : (HS.watch { S with queues := (xss.take i ++ S.queues.drop i).set i (xs.take j) } i (xs.take j) m) = { S with queues := (xss.take i ++ S.queues.drop i).set i (xs.take (j + 1)) } := by
    unfold HS.watch
    simp only [List.set_set]
    rw [List.take_add_one, hm]
    rfl
   rw [e] at hh3
   exact ⟨_, A3, rfl, u2.step hh3 fr3 tu3 gr3⟩
  ·rintro σ H2 ⟨v, A2, rfl, u2⟩
   rw [List.length_map, List.take_length, QdA hxs (by omega)] at u2
   exact ⟨_, _, A2, rfl, u2⟩
 ·rintro σ H1 ⟨v1, v2, A1, rfl, u⟩
  have e : xss.take 4 ++ S.queues.drop 4 = xss := by
   rw [← hlen, List.take_length, hq0, hlen]
   simp
  rw [e] at u
  exact u.out k
theorem QfA (F : Fun K "_law_guards" "_law_guards" Qbx f fd) (T : TX K mg C) (D1_ : DefOk P w K mg base n "_law_names" ["found", "due"] (QgE K) [[]])
  (M2_ : MethOk P w K mg base C n "waiting" ["self", "guard"] (Qdu C) [[]])
  (M3_ : MethOk P w K mg base C n "words" ["self", "guard"] (Qh7 C) [[]]) :
  FnOk P w K mg base CX0 (n + 1) f fd ["house", "waits", "told"] (QiI C) := by
 refine F.ok Qcp (by rintro _ _ _ _ ⟨_, _, _, _, _, _, _, rfl, _⟩; rfl) fun _ _ _ s H vs Q E hr h => ?_
 obtain ⟨p, w, t, A', S, al, bl, rfl, hh, ⟨hw, hp⟩, ⟨ht, hpt⟩, hl1, hl2, hb1, hb2, k⟩ := h
 have hu := Qu hr
 refine ⟨_, (Qb (Q7 PassesOwn.never rfl (QL (by rfl) T.g_range (Qa Qi Qc)) (QR (i := 3) Qcp.nd rfl (Or.inl rfl))
  (Qb (QA (Qbm (QaD (qc D1_ hr (Qa (qm M2_ (pv 0) T.cl hr (Qa (pv 3) Qc)) (Qa (Zf QN (pv 1) (pv 3) (fun _ _ => rfl)) Qc))))) (Qe (Qq Qce)) Qn)
  (Qe (QA (Qbm (QaD (qc D1_ hr (Qa (qm M3_ (pv 0) T.cl hr (Qa (pv 3) Qc)) (Qa (Zf QN (pv 2) (pv 3) (fun _ _ => rfl)) Qc))))) (Qe (Qq Qce)) Qn))))
  (Qe (Qq Qce))), ?_⟩
 refine ⟨4, rfl, by decide, by decide, ?_⟩
 refine ZP (n := 4) (fun i σ H' => ∃ v_guard, σ = [some (.ref p), some (.ref w), some (.ref t), v_guard] ∧ Same H H') ?_ ?_ ?_
 ·exact ⟨_, rfl, Same.refl _⟩
 ·rintro i σ H1 hi ⟨v1, rfl, s⟩
  have e0 : (0 : Int) + (i : Int) = (i : Int) := Int.zero_add _
  rw [e0]
  obtain ⟨xs, hxs⟩ : ∃ xs, S.queues[i]? = some xs := ⟨S.queues[i], List.getElem?_eq_getElem (by omega)⟩
  obtain ⟨ys, hys⟩ : ∃ ys, S.told[i]? = some ys := ⟨S.told[i], List.getElem?_eq_getElem (by omega)⟩
  obtain ⟨b, hb, hib⟩ := Zt hp hxs
  obtain ⟨d, hd, hid⟩ := Zt hpt hys
  have hh1 := hh.same s
  refine ⟨_, rfl, p, A'.dx, _, rfl, hh1.ob, Qj, _, rfl, p, A', S, i, xs, rfl, hh1, hi, hxs, fun l hl => ?_⟩
  have s2 := s.trans (Same.new (o := .lst (xs.map V.int)) hl)
  refine ⟨_, rfl, _, rfl, w, _, i, .ref b, rfl, rfl, SqL.of (s2 _ _ hw), QZ (by rw [List.getElem?_map, hb]; rfl), l, b, xs, rfl, Qd, SqL.of (s2 _ _ hib), hb1 xs (List.mem_of_getElem? hxs), _, rfl, Qbg ?_⟩
  have hh2 := hh.same s2
  refine ⟨_, rfl, p, A'.dx, _, rfl, hh2.ob, Qj, _, rfl, p, A', S, i, ys, rfl, hh2, hi, hys, fun l2 hl2' => ?_⟩
  have s3 := s2.trans (Same.new (o := .lst (ys.map V.int)) hl2')
  refine ⟨_, rfl, _, rfl, t, _, i, .ref d, rfl, rfl, SqL.of (s3 _ _ ht), QZ (by rw [List.getElem?_map, hd]; rfl), l2, d, ys, rfl, Qd, SqL.of (s3 _ _ hid), hb2 ys (List.mem_of_getElem? hys), _, rfl, Qbg ?_⟩
  exact ⟨_, rfl, s3⟩
 ·rintro σ H1 ⟨v1, rfl, s⟩
  exact k _ s
end
section
variable {C CS : Addr}
theorem Qdl (F : Fun K "add_row" "Search.add_row" Z5 f fd) (T : TX K mg C) (TS : TSx K mg CS)  :
  FnOk P w K mg base CX0 (n + 1) f fd ["self", "row"] (QcR CS) := by
 refine F.ok Qdh (by rintro _ _ _ _ ⟨_, _, _, _, _, _, rfl, _⟩; rfl) fun _ _ _ s H vs Q E hr h => ?_
 obtain ⟨q, p, r, B, st, row, rfl, hs, hr', hlen, k⟩ := h
 have hu := Qu hr
 refine ⟨_, (Qe (QA (Qag (QdL hu (Zf Qbp (pv 1) Qi (fun _ _ => rfl)) (QB (pv 0) rfl))) (Qb (Qcz hu (QB (pv 0) rfl) (Zf Qbp (pv 1) Qi (fun _ _ => rfl)) Qce rfl)
  (Qe (Qk (Qfp PySem.F.plainAttrs_list PySem.F.slot_list_append PySem.F.type_list_append QaG (QB (pv 0) rfl) (Qa (pv 1) Qc))))) Qn)), ?_⟩
 obtain ⟨more, hvs⟩ := row.first
 have hix : atI row.vs 0 = some (.int row.nm) := by rw [hvs]; exact QZ (j := 0) rfl
 obtain ⟨vs, hv, pr⟩ := hs.rl
 refine ⟨_, rfl, r, _, 0, .int row.nm, rfl, rfl, SqT.of hr', hix, _, rfl, q, CS, B.dx, _, _, rfl, hs.ob, TS.cl, TS.n_listed, Qfc, B.ld, _, rfl, DGet.k (k := Sum.inl row.nm) hs.ld, _, rfl, ?_⟩
 rw [Qeh]
 by_cases hm : row.nm ∈ st.rows.map Rw.nm
 ·rw [decide_eq_true hm]
  have e : st.add row = st := if_pos hm
  rw [e] at k
  exact Qbg (k H hs (Frame.refl _ _) (Tups.refl _))
 ·rw [decide_eq_false hm]
  have e : st.add row = { st with rows := st.rows ++ [row] } := if_neg hm
  rw [e] at k
  have q1 : q ≠ B.ld := QI hs.ob hs.ld (by intro z; cases z)
  have l2 : B.ld ≠ B.rl := QI hs.ld hv (by intro z; cases z)
  have ob1 : ∀ {o : HO}, (upd H B.ld o) q = some (.ins CS B.dx (Qhv p B)) := fun {o} => by rw [Qh q1]; exact hs.ob
  have r1 : ∀ {o : HO}, (upd H B.ld o) r = some (.tup row.vs) := fun {o} => by rw [Qh (QI hr' hs.ld (by intro z; cases z))]; exact hr'
  have v1 : ∀ {o : HO}, (upd H B.ld o) B.rl = some (.lst vs) := fun {o} => by rw [Qh l2.symm]; exact hv
  refine QaK ⟨_, rfl, q, CS, B.dx, _, _, rfl, hs.ob, TS.cl, TS.n_listed, Qfc, _, rfl, r, _, 0, .int row.nm, rfl, rfl, SqT.of hr', hix, B.ld, _, rfl, DPut.k (k := Sum.inl row.nm) hs.ld (by rw [Qad, List.length_map]; exact QO (by omega)), ?_⟩
  refine ⟨_, rfl, q, CS, B.dx, _, _, rfl, ob1, TS.cl, TS.n_rows, Qfb, .inl ⟨rfl, _, SqL.of v1⟩, _, rfl, B.rl, _, _, rfl, rfl, v1, by rw [← QG pr]; exact QO (by omega), ?_⟩
  refine k _ (hs.added hr' hm hv pr) (fun b o e n => ?_) (fun b xs e => ?_)
  ·rw [Qh (fun z => n (by rw [z]; simp [SB.foot])), Qh (fun z => n (by rw [z]; simp [SB.foot]))]; exact e
  ·rw [Qh (QI e hv (by intro z; cases z)), Qh (QI e hs.ld (by intro z; cases z))]; exact e
theorem QcD (F : Fun K "add_value" "Search.add_value" ZK f fd) (T : TX K mg C) (TS : TSx K mg CS) (D1_ : DefOk P w K mg base n "box_name" ["thing"] (Zv) [[]])
  (M2_ : MethOk P w K mg base C n "field" ["self", "name", "at"] (Qcj C) [[]])
  (M3_ : MethOk P w K mg base CS n "add_row" ["self", "row"] (QcR CS) [[]]) :
  FnOk P w K mg base CX0 (n + 1) f fd ["self", "holder"] (QcQ C CS) := by
 refine F.ok Qaz (by rintro _ _ _ _ ⟨_, _, _, _, _, _, _, _, _, rfl, _⟩; rfl) fun _ _ _ s H vs Q E hr h => ?_
 obtain ⟨q, p, A', S, B, st, i, b, t, rfl, sh, hb, ht, k⟩ := h
 have hu := Qu hr
 refine ⟨_, (Qb (Qw (i := 2) Qaz.nd rfl (Or.inl rfl) (qc D1_ hr (Qa (qm M2_ (QB (pv 0) rfl) T.cl hr (Qa (pv 1) (Qa Qi Qc))) Qc)))
  (Qe (QA (Qag (Qbz (pv 2))) (Qe (Qk (qm M3_ (pv 0) TS.cl hr (Qa (QaE (Qa (pv 2) (Qa Qab (Qa (pv 1) Qc)))) Qc)))) Qn))), ?_⟩
 have hs := sh.hs
 refine ⟨_, rfl, q, CS, B.dx, _, _, rfl, hs.ob, TS.cl, TS.n_house, QbQ, p, A'.dx, _, rfl, sh.hh.ob, Qj, _, rfl, p, A', S, i, b, 1, t, rfl, sh.hh, hb, ht, fun v tv => ?_⟩
 refine ⟨v, t, rfl, tv, ?_⟩
 have hin := sh.ok.row b (List.mem_of_getElem? hb) t (List.mem_of_getElem? ht)
 cases t with
 | non => exact ⟨_, rfl, _, rfl, Qbg ((UpS.refl sh).outB k)⟩
 | num j => exact ⟨_, rfl, _, rfl, Qbg ((UpS.refl sh).outB k)⟩
 | box n' =>
  refine ⟨_, rfl, _, rfl, QaK ⟨_, rfl, q, B.dx, _, rfl, hs.ob, Z1 (by decide +kernel), _, rfl, _, rfl, zl, fun r hr => ?_⟩⟩
  have u1 := (UpS.refl sh).new (o := .tup (Rw.pair n' b.name).vs) hr
  refine ⟨q, p, r, B, st, .pair n' b.name, rfl, u1.sh.hs, Qd, by have := sh.few; omega, fun H2 h2 fr2 tu2 => ?_⟩
  exact (u1.step h2 fr2 tu2 (Grown.refl _ _) (SS.add_ins sh.ins (hin n' rfl))).outB k
theorem Qcg (F : Fun K "add_fields" "Search.add_fields" Zz f fd) (T : TX K mg C) (TS : TSx K mg CS) (M1_ : MethOk P w K mg base C n "size" ["self", "name"] (Qhl C) [[]])
  (D2_ : DefOk P w K mg base n "box_name" ["thing"] (Zv) [[]])
  (M3_ : MethOk P w K mg base C n "field" ["self", "name", "at"] (Qcj C) [[]])
  (M4_ : MethOk P w K mg base CS n "add_row" ["self", "row"] (QcR CS) [[]]) :
  FnOk P w K mg base CX0 (n + 1) f fd ["self", "holder"] (Qfa C CS) := by
 refine F.ok Zq (by rintro _ _ _ _ ⟨_, _, _, _, _, _, _, _, rfl, _⟩; rfl) fun _ _ _ s H vs Q E hr h => ?_
 obtain ⟨q, p, A', S, B, st, i, b, rfl, sh, hb, k⟩ := h
 have hu := Qu hr
 refine ⟨_, (Qe (Q7 PassesOwn.never rfl (QL (by rfl) T.g_range (Qa (qm M1_ (QB (pv 0) rfl) T.cl hr (Qa (pv 1) Qc)) Qc)) (QR (i := 2) Zq.nd rfl (Or.inl rfl))
  (Qb (Qw (i := 3) Zq.nd rfl (Or.inl rfl) (qc D2_ hr (Qa (qm M3_ (QB (pv 0) rfl) T.cl hr (Qa (pv 1) (Qa (pv 2) Qc))) Qc)))
  (Qe (QA (Qag (Qbz (pv 3))) (Qe (Qk (qm M4_ (pv 0) TS.cl hr (Qa (QaE (Qa (pv 3) (Qa Qab (Qa (pv 1) (Qa (pv 2) Qc))))) Qc)))) Qn))))), ?_⟩
 have h8 := sh.ok.eight b (List.mem_of_getElem? hb)
 refine ⟨_, rfl, q, CS, B.dx, _, _, rfl, sh.hs.ob, TS.cl, TS.n_house, QbQ, p, A'.dx, _, rfl, sh.hh.ob, Qj, _, rfl, p, A', S, i, b, rfl, sh.hh, hb, (b.row.length : Int), rfl, by omega, by omega, ?_⟩
 rw [Int.toNat_natCast]
 refine ZP (n := b.row.length) (fun j σ H' => ∃ v_at v_name, σ = [some (.ref q), some (.int b.name), v_at, v_name] ∧ UpS C CS H q p A' S B H' B (addTs (fun n at_ => .plain n b.name at_) st (b.row.take j))) ?_ ?_ ?_
 ·exact ⟨_, _, rfl, UpS.refl sh⟩
 ·rintro j σ H1 hj ⟨v1, v2, rfl, u⟩
  have e0 : (0 : Int) + (j : Int) = (j : Int) := Int.zero_add _
  rw [e0]
  obtain ⟨t, ht⟩ : ∃ t, b.row[j]? = some t := ⟨b.row[j], List.getElem?_eq_getElem hj⟩
  have hin := sh.ok.row b (List.mem_of_getElem? hb) t (List.mem_of_getElem? ht)
  have hs := u.sh.hs
  refine ⟨_, rfl, q, CS, B.dx, _, _, rfl, hs.ob, TS.cl, TS.n_house, QbQ, p, A'.dx, _, rfl, u.sh.hh.ob, Qj, _, rfl, _, rfl, p, A', S, i, b, j, t, rfl, u.sh.hh, hb, ht, fun v tv => ?_⟩
  refine ⟨v, t, rfl, tv, ?_⟩
  have htk : b.row.take (j + 1) = b.row.take j ++ [t] := by rw [List.take_add_one, ht]; rfl
  have hlen : (b.row.take j).length = j := by rw [List.length_take]; omega
  have hnext : ∀ {st' : SS}, st' = ((addTs (fun n at_ => .plain n b.name at_) st (b.row.take j)).addT t fun n => .plain n b.name j) → st' = addTs (fun n at_ => .plain n b.name at_) st (b.row.take (j + 1)) := fun {st'} e => by rw [htk, Qer, hlen]; exact e
  cases t with
  | non => exact ⟨_, rfl, _, rfl, Qbg ⟨_, _, rfl, hnext rfl ▸ u⟩⟩
  | num m => exact ⟨_, rfl, _, rfl, Qbg ⟨_, _, rfl, hnext rfl ▸ u⟩⟩
  | box n' =>
   refine ⟨_, rfl, _, rfl, QaK ⟨_, rfl, q, B.dx, _, rfl, hs.ob, Z1 (by decide +kernel), _, rfl, _, rfl, _, rfl, zl, fun r hr => ?_⟩⟩
   have u1 := u.new (o := .tup (Rw.plain n' b.name j).vs) hr
   refine ⟨q, p, r, B, _, .plain n' b.name j, rfl, u1.sh.hs, Qd, by have := u.sh.few; omega, fun H2 h2 fr2 tu2 => ?_⟩
   refine ⟨_, _, rfl, ?_⟩
   rw [← hnext rfl]
   exact u1.step h2 fr2 tu2 (Grown.refl _ _) (SS.add_ins u.sh.ins (hin n' rfl))
 ·rintro σ H1 ⟨v1, v2, rfl, u⟩
  rw [List.take_length] at u
  exact u.outB k
end
def addNs (g : Int) (st : SS) (ns : List Int) : SS := ns.foldl (fun st n => st.add (.told n g)) st
def Qb9 (st : SS) (tss : List (List Int)) : SS := tss.zipIdx.foldl (fun st x => addNs x.2 st x.1) st
theorem QjG (g : Int) (st : SS) (ns : List Int) (n : Int) : addNs g st (ns ++ [n]) = (addNs g st ns).add (.told n g) := by
 unfold addNs; rw [List.foldl_append]; rfl
theorem Qh1 (st : SS) (tss : List (List Int)) (ns : List Int) : Qb9 st (tss ++ [ns]) = addNs tss.length (Qb9 st tss) ns := by
 unfold Qb9
 rw [List.zipIdx_append, List.foldl_append]
 simp
def Qgi (C CS : Addr) : Sp := fun vs H Q _ => ∃ (q p : Addr) (A : HA) (S : HS) (B : SB) (st : SS), vs = [.ref q] ∧ SH C CS H q p A S B st ∧ OutB C CS H q p A S B (addTs (fun n s => .slot n s) st S.slots) Q .non
def Qhr (C CS : Addr) : Sp := fun vs H Q _ => ∃ (q p : Addr) (A : HA) (S : HS) (B : SB) (st : SS), vs = [.ref q] ∧ SH C CS H q p A S B st ∧ OutB C CS H q p A S B (Qb9 st S.told) Q .non
section
variable {C CS : Addr}
theorem QcE (F : Fun K "add_slots" "Search.add_slots" ZL f fd) (T : TX K mg C) (TS : TSx K mg CS) (D1_ : DefOk P w K mg base n "box_name" ["thing"] (Zv) [[]])
  (M2_ : MethOk P w K mg base CS n "add_row" ["self", "row"] (QcR CS) [[]]) :
  FnOk P w K mg base CX0 (n + 1) f fd ["self"] (Qgi C CS) := by
 refine F.ok Zw (by rintro _ _ _ _ ⟨_, _, _, _, _, _, rfl, _⟩; rfl) fun _ _ _ s H vs Q E hr h => ?_
 obtain ⟨q, p, A', S, B, st, rfl, sh, k⟩ := h
 have hu := Qu hr
 refine ⟨_, (Qe (Q7 PassesOwn.never rfl (Qdk (by rfl) T.g_enumerate (Qa (QB (QB (pv 0) rfl) rfl) Qc)) (QcA rfl Zw.nd (i := 1) (j := 2) rfl rfl (Or.inl rfl) (Or.inl rfl))
  (Qb (Qw (i := 3) Zw.nd rfl (Or.inl rfl) (qc D1_ hr (Qa (pv 2) Qc)))
  (Qe (QA (Qag (Qbz (pv 3))) (Qe (Qk (qm M2_ (pv 0) TS.cl hr (Qa (QaE (Qa (pv 3) (Qa Qab (Qa (pv 1) Qc)))) Qc)))) Qn))))), ?_⟩
 obtain ⟨ws, hw, htw⟩ := sh.hh.sl
 refine ⟨_, rfl, q, CS, B.dx, _, _, rfl, sh.hs.ob, TS.cl, TS.n_house, QbQ, p, C, A'.dx, _, _, rfl, sh.hh.ob, T.cl, T.n_slots, QcX, A'.sl, ws, rfl, hw, ?_⟩
 have nsl : A'.sl ∉ B.foot q := sh.ap _ (by simp [HA.foot, HA.lists])
 refine QcY (xs := ws) (fun j σ H' => ∃ v_slot v_thing v_name, σ = [some (.ref q), v_slot, v_thing, v_name] ∧ UpS C CS H q p A' S B H' B (addTs (fun n s => .slot n s) st (S.slots.take j))) ?_ ?_ ?_ ?_
 ·exact ⟨_, _, _, rfl, UpS.refl sh⟩
 ·rintro j σ H1 _ ⟨_, _, _, rfl, u⟩
  exact (u.keep hw nsl).1
 ·rintro j y σ H1 q1 hy ⟨v1, v2, v3, rfl, u⟩ hq1
  obtain ⟨t, ht, tv⟩ := QM htw hy
  have hj := (List.getElem?_eq_some_iff.mp ht).1
  have u1 := u.new (o := .tup [.int (j : Int), y]) hq1
  have htu := (Qd (H := H1) (a := q1) (o := .tup [.int (j : Int), y]))
  generalize upd H1 q1 (.tup [.int (j : Int), y]) = H2 at u1 htu ⊢
  refine ⟨q1, _, _, rfl, htu, ?_⟩
  refine ⟨_, rfl, y, t, rfl, tv.keep u1.tu, ?_⟩
  have hin := sh.ok.slot t (List.mem_of_getElem? ht)
  have htk : S.slots.take (j + 1) = S.slots.take j ++ [t] := by rw [List.take_add_one, ht]; rfl
  have hlen : (S.slots.take j).length = j := by rw [List.length_take]; omega
  have hnext : ∀ {st' : SS}, st' = ((addTs (fun n s => .slot n s) st (S.slots.take j)).addT t fun n => .slot n j) → st' = addTs (fun n s => .slot n s) st (S.slots.take (j + 1)) := fun {st'} e => by rw [htk, Qer, hlen]; exact e
  cases t with
  | non => exact ⟨_, rfl, _, rfl, Qbg ⟨_, _, _, rfl, hnext rfl ▸ u1⟩⟩
  | num m => exact ⟨_, rfl, _, rfl, Qbg ⟨_, _, _, rfl, hnext rfl ▸ u1⟩⟩
  | box n' =>
   refine ⟨_, rfl, _, rfl, QaK ⟨_, rfl, q, B.dx, _, rfl, u1.sh.hs.ob, Z1 (by decide +kernel), _, rfl, _, rfl, zl, fun r hr => ?_⟩⟩
   have u2 := u1.new (o := .tup (Rw.slot n' j).vs) hr
   refine ⟨q, p, r, B, _, .slot n' j, rfl, u2.sh.hs, Qd, by have := u1.sh.few; omega, fun H3 h3 fr3 tu3 => ?_⟩
   refine ⟨_, _, _, rfl, ?_⟩
   rw [← hnext rfl]
   exact u2.step h3 fr3 tu3 (Grown.refl _ _) (SS.add_ins u1.sh.ins (hin n' rfl))
 ·rintro σ H1 ⟨v1, v2, v3, rfl, u⟩
  rw [← QG htw, List.take_length] at u
  exact u.outB k
theorem Qc3 (F : Fun K "add_told" "Search.add_told" ZT f fd) (T : TX K mg C) (TS : TSx K mg CS) (M1_ : MethOk P w K mg base CS n "add_row" ["self", "row"] (QcR CS) [[]]) :
  FnOk P w K mg base CX0 (n + 1) f fd ["self"] (Qhr C CS) := by
 refine F.ok ZJ (by rintro _ _ _ _ ⟨_, _, _, _, _, _, rfl, _⟩; rfl) fun _ _ _ s H vs Q E hr h => ?_
 obtain ⟨q, p, A', S, B, st, rfl, sh, k⟩ := h
 have hu := Qu hr
 refine ⟨_, (Qe (Q7 PassesOwn.never rfl (Qdk (by rfl) T.g_enumerate (Qa (QB (QB (pv 0) rfl) rfl) Qc)) (QcA rfl ZJ.nd (i := 1) (j := 2) rfl rfl (Or.inl rfl) (Or.inl rfl))
  (Qe (Q7 PassesOwn.never rfl (QQ (pv 2)) (QR (i := 3) ZJ.nd rfl (Or.inl rfl))
  (Qe (Qk (qm M1_ (pv 0) TS.cl hr (Qa (QaE (Qa (pv 3) (Qa Qab (Qa (pv 1) Qc)))) Qc)))))))), ?_⟩
 have htd := sh.hh.td
 have htl := sh.hh.tl
 refine ⟨_, rfl, q, CS, B.dx, _, _, rfl, sh.hs.ob, TS.cl, TS.n_house, QbQ, p, C, A'.dx, _, _, rfl, sh.hh.ob, T.cl, T.n_told, Qg5, A'.td, _, rfl, htd, ?_⟩
 have ntd : A'.td ∉ B.foot q := sh.ap _ (by simp [HA.foot, HA.lists])
 refine QcY (xs := A'.tl.map V.ref) (fun j σ H' => ∃ v_guard v_names v_name, σ = [some (.ref q), v_guard, v_names, v_name] ∧ UpS C CS H q p A' S B H' B (Qb9 st (S.told.take j))) ?_ ?_ ?_ ?_
 ·exact ⟨_, _, _, rfl, UpS.refl sh⟩
 ·rintro j σ H1 _ ⟨_, _, _, rfl, u⟩
  exact (u.keep htd ntd).1
 ·rintro j y σ H1 q1 hy ⟨v1, v2, v3, rfl, u⟩ hq1
  obtain ⟨a, ha, rfl⟩ : ∃ a, A'.tl[j]? = some a ∧ y = .ref a := by
   rw [List.getElem?_map] at hy
   cases e : A'.tl[j]? with
   | none => rw [e] at hy; cases hy
   | some a => rw [e] at hy; exact ⟨a, rfl, (Option.some.inj hy).symm⟩
  obtain ⟨ns, hns, hia⟩ := QM htl ha
  have hj := (List.getElem?_eq_some_iff.mp hns).1
  have nta : a ∉ B.foot q := sh.ap _ (by simp [HA.foot, HA.lists, List.mem_of_getElem? ha])
  have u1 := u.new (o := .tup [.int (j : Int), .ref a]) hq1
  have htu := (Qd (H := H1) (a := q1) (o := .tup [.int (j : Int), .ref a]))
  generalize upd H1 q1 (.tup [.int (j : Int), .ref a]) = H2 at u1 htu ⊢
  refine ⟨q1, _, _, rfl, htu, ?_⟩
  refine ⟨_, rfl, a, rfl, ⟨_, SqL.of (u1.keep hia nta).1⟩, ?_⟩
  refine ZS (K := K) (xs := ns.map V.int) (fun i σ H' => ∃ v_name, σ = [some (.ref q), some (.int j), some (.ref a), v_name] ∧ UpS C CS H q p A' S B H' B (addNs j (Qb9 st (S.told.take j)) (ns.take i))) ?_ ?_ ?_ ?_
  ·exact ⟨_, rfl, u1⟩
  ·rintro i σ H3 _ ⟨_, rfl, u3⟩
   exact SqL.of (u3.keep hia nta).1
  ·rintro i z σ H3 hz ⟨v, rfl, u3⟩
   obtain ⟨m, hm, rfl⟩ : ∃ m, ns[i]? = some m ∧ z = .int m := by
    rw [List.getElem?_map] at hz
    cases e : ns[i]? with
    | none => rw [e] at hz; cases hz
    | some m => rw [e] at hz; exact ⟨m, rfl, (Option.some.inj hz).symm⟩
   refine ⟨_, rfl, q, B.dx, _, rfl, u3.sh.hs.ob, Z1 (by decide +kernel), _, rfl, _, rfl, zl, fun r hr => ?_⟩
   have u4 := u3.new (o := .tup (Rw.told m j).vs) hr
   refine ⟨q, p, r, B, _, .told m j, rfl, u4.sh.hs, Qd, by have := u3.sh.few; omega, fun H5 h5 fr5 tu5 => ?_⟩
   refine ⟨_, rfl, ?_⟩
   rw [List.take_add_one, hm]
   show UpS C CS H q p A' S B H5 B (addNs j _ (ns.take i ++ [m]))
   rw [QjG]
   exact u4.step h5 fr5 tu5 (Grown.refl _ _) (SS.add_ins u3.sh.ins (sh.ok.told ns (List.mem_of_getElem? hns) m (List.mem_of_getElem? hm)))
  ·rintro σ H3 ⟨v, rfl, u3⟩
   rw [List.length_map, List.take_length] at u3
   have htk : S.told.take (j + 1) = S.told.take j ++ [ns] := by rw [List.take_add_one, hns]; rfl
   have hlen : (S.told.take j).length = j := by rw [List.length_take]; omega
   refine ⟨_, _, _, rfl, ?_⟩
   rw [htk, Qh1, hlen]
   exact u3
 ·rintro σ H1 ⟨v1, v2, v3, rfl, u⟩
  rw [List.length_map, ← QG htl, List.take_length] at u
  exact u.outB k
end
def ZD : List (Int × List Int) → Int → Int → List (Int × List Int)
 | [], k, h => [(k, [h])]
 | x :: l, k, h => if x.1 = k then (x.1, x.2 ++ [h]) :: l else x :: ZD l k h
theorem Qgp : ∀ {l : List (Int × List Int)} {k h : Int} {j : Nat} {hs : List Int}, (l.map (·.1)).Nodup → l[j]? = some (k, hs) → ZD l k h = l.set j (k, hs ++ [h])
 | [], _, _, _, _, _, e => by simp at e
 | x :: l, k, h, 0, hs, nd, e => by
  have e : x = (k, hs) := by simpa using e
  subst e
  simp [ZD]
 | x :: l, k, h, j + 1, hs, nd, e => by
  have e : l[j]? = some (k, hs) := by simpa using e
  have nd : (x.1 :: l.map (·.1)).Nodup := nd
  obtain ⟨n1, n2⟩ := List.nodup_cons.mp nd
  have hk : k ∈ l.map (·.1) := List.mem_map.mpr ⟨(k, hs), List.mem_of_getElem? e, rfl⟩
  have ne : ¬ x.1 = k := fun z => n1 (by rw [z]; exact hk)
  show (if x.1 = k then _ else _) = _
  rw [if_neg ne, Qgp n2 e]
  rfl
theorem QfF : ∀ {l : List (Int × List Int)} {k h : Int}, k ∉ l.map (·.1) → ZD l k h = l ++ [(k, [h])]
 | [], _, _, _ => rfl
 | x :: l, k, h, n => by
  have n1 : ¬ x.1 = k := fun z => n (by simp [z])
  show (if x.1 = k then _ else _) = _
  rw [if_neg n1, QfF (fun m => n (List.mem_cons_of_mem _ m))]
  rfl
def SS.lock (st : SS) (k h : Int) : SS := { st with locked := ZD st.locked k h }
theorem Qgo {l : List (Int × List Int)} {al : List Addr} (h : l.length = al.length) : (Qch l al).map (·.1) = (l.map (·.1)).map fun n => (Sum.inl n : Key) := by
 unfold Qch
 rw [List.map_map, List.map_map]
 refine List.ext_getElem? fun k => ?_
 rw [List.getElem?_map, List.getElem?_map]
 cases e : l[k]? with
 | none =>
  have : (l.zip al)[k]? = none := by
   rw [List.getElem?_eq_none_iff] at e ⊢
   rw [List.length_zip]; omega
  rw [this]; rfl
 | some x =>
  have hk := (List.getElem?_eq_some_iff.mp e).1
  obtain ⟨a, ha⟩ : ∃ a, al[k]? = some a := ⟨al[k]'(by omega), List.getElem?_eq_getElem _⟩
  rw [List.getElem?_zip_eq_some.mpr (show l[k]? = some (x, a).1 ∧ al[k]? = some (x, a).2 from ⟨e, ha⟩)]
  rfl
section
variable {CS : Addr} {H : Hp} {q p : Addr} {B : SB} {st : SS}
theorem SearchAt.lkNd (h : SearchAt CS H q p B st) : ((Qch st.locked B.ll).map (·.1)).Nodup := by rw [Qgo (QG h.ll)]; exact Qeg h.lk
theorem SearchAt.lockAt (h : SearchAt CS H q p B st) {j : Nat} {k : Int} {hs : List Int} (e : st.locked[j]? = some (k, hs)) : ∃ a, B.ll[j]? = some a ∧ QjK H hs a ∧ Qa2 (Qch st.locked B.ll) (Sum.inl k) = some (.ref a) := by
 obtain ⟨a, ha, z⟩ := Zt h.ll e
 refine ⟨a, ha, z, Qd9 h.lkNd (i := j) ?_⟩
 unfold Qch
 rw [List.getElem?_map, List.getElem?_zip_eq_some.mpr (show st.locked[j]? = some ((k, hs), a).1 ∧ B.ll[j]? = some ((k, hs), a).2 from ⟨e, ha⟩)]
 rfl
theorem SearchAt.lockNo (h : SearchAt CS H q p B st) {k : Int} (n : k ∉ st.locked.map (·.1)) : Qa2 (Qch st.locked B.ll) (Sum.inl k) = none := by
 refine QcM ?_
 rw [Qgo (QG h.ll)]
 intro m
 obtain ⟨x, hx, z⟩ := List.mem_map.mp m
 rw [Sum.inl.inj z] at hx
 exact n hx
theorem SearchAt.lockOld (h : SearchAt CS H q p B st) {j : Nat} {k x : Int} {hs : List Int} {a : Addr} (e : st.locked[j]? = some (k, hs)) (ha : B.ll[j]? = some a) : SearchAt CS (upd H a (.lst ((hs ++ [x]).map V.int))) q p B (st.lock k x) := by
 obtain ⟨a2, ha2, z⟩ := Zt h.ll e
 rw [ha] at ha2; cases ha2
 obtain ⟨n1, n2⟩ := List.nodup_cons.mp h.nd
 have ham := List.mem_of_getElem? ha
 obtain ⟨vs, hv, pr⟩ := h.rl
 have z : H a = some (.lst (hs.map V.int)) := z
 have tu : Tups H (upd H a (.lst ((hs ++ [x]).map V.int))) := Tups.upd z (by intro xs w; cases w)
 have el : (st.lock k x).locked = st.locked.set j (k, hs ++ [x]) := Qgp h.lk e
 have hkeys : (st.locked.set j (k, hs ++ [x])).map (·.1) = st.locked.map (·.1) := by
  refine List.ext_getElem? fun i => ?_
  rw [List.getElem?_map, List.getElem?_map, List.getElem?_set]
  by_cases q : j = i
  ·subst q; rw [e]; simp [(List.getElem?_eq_some_iff.mp e).1]
  ·rw [if_neg q]
 refine ⟨?_, ⟨vs, ?_, QH (fun _ _ _ _ z => z.keep tu) pr⟩, ?_, ?_, ?_, h.nd, h.kf, h.un, ?_⟩
 ·rw [Qh (QI h.ob z (by intro w; cases w))]; exact h.ob
 ·rw [Qh (show B.rl ≠ a from fun w => n1 (by rw [w]; exact ham))]; exact hv
 ·rw [Qh (QI h.ld z (by intro w; cases w))]; exact h.ld
 ·rw [Qh (QI h.kd z (by intro w; cases w)), h.kd, el]
  congr 2
  unfold Qch
  refine List.ext_getElem? fun i => ?_
  rw [List.getElem?_map, List.getElem?_map]
  unfold List.zip
  rw [List.getElem?_zipWith, List.getElem?_zipWith, List.getElem?_set]
  by_cases q : j = i
  ·subst q; rw [e, ha]; simp [(List.getElem?_eq_some_iff.mp e).1]
  ·rw [if_neg q]
 ·rw [el]
  have ea : B.ll = B.ll.set j a := by
   refine List.ext_getElem? fun i => ?_
   rw [List.getElem?_set]
   by_cases q : j = i
   ·subst q; rw [ha]; simp [(List.getElem?_eq_some_iff.mp ha).1]
   ·simp [q]
  rw [ea]
  exact Qed h.ll Qd fun i y c hi hy hc w => by
   show upd _ _ _ c = _
   rw [Qh (show c ≠ a from fun q => hi (QbK n2 (by rw [← q]; exact hc) ha))]; exact w
 ·rw [el, hkeys]; exact h.lk
theorem SearchAt.lockNew (h : SearchAt CS H q p B st) {k x : Int} {l : Addr} (n : k ∉ st.locked.map (·.1)) (hl : H l = none) :
  SearchAt CS (upd (upd (upd H l (.lst [])) B.kd (.dK (Qci (Qch st.locked B.ll) (Sum.inl k) (.ref l)))) l (.lst [.int x])) q p { B with ll := B.ll ++ [l] } (st.lock k x) := by
 obtain ⟨n1, n2⟩ := List.nodup_cons.mp h.nd
 obtain ⟨vs, hv, pr⟩ := h.rl
 have lne : ∀ {b : Addr} {o : HO}, H b = some o → b ≠ l := fun e => Qf e hl
 have k1 : (upd H l (.lst [])) B.kd = some (.dK (Qch st.locked B.ll)) := Zk h.kd hl
 have other : ∀ {b : Addr} {o : HO}, H b = some o → b ≠ B.kd → (upd (upd (upd H l (.lst [])) B.kd (.dK (Qci (Qch st.locked B.ll) (Sum.inl k) (.ref l)))) l (.lst [.int x])) b = some o := fun e nk => by rw [Qh (lne e), Qh nk, Qh (lne e)]; exact e
 have tu : Tups H (upd (upd (upd H l (.lst [])) B.kd (.dK (Qci (Qch st.locked B.ll) (Sum.inl k) (.ref l)))) l (.lst [.int x])) := fun b xs e => other e (QI e h.kd (by intro z; cases z))
 have el : (st.lock k x).locked = st.locked ++ [(k, [x])] := QfF n
 have hlen := QG h.ll
 have inl : ∀ c ∈ B.ll, ∃ o, H c = some o := fun c hc => h.there c (by simp [SB.foot, hc])
 refine ⟨other h.ob (QI h.ob h.kd (by intro z; cases z)), ⟨vs, other hv (QI hv h.kd (by intro z; cases z)), QH (fun _ _ _ _ z => z.keep tu) pr⟩, other h.ld h.kf, ?_, ?_, ?_, h.kf, h.un, ?_⟩
 ·show upd _ _ _ B.kd = _
  rw [Qh (lne h.kd), Qd, QcS _ (h.lockNo n), el]
  congr 2
  unfold Qch
  rw [List.zip_append hlen, List.map_append]; rfl
 ·rw [el]
  refine Qbc (QH (fun y c _ hc z => ?_) h.ll) (.cons Qd .nil)
  exact other z (QI z h.kd (by intro w; cases w))
 ·show (B.rl :: (B.ll ++ [l])).Nodup
  refine List.nodup_cons.mpr ⟨fun m => ?_, QcF n2 fun m => ?_⟩
  ·rcases List.mem_append.mp m with z | z
   ·exact n1 z
   ·exact lne hv (List.mem_singleton.mp z)
  ·obtain ⟨o, e⟩ := inl l m
   rw [hl] at e; cases e
 ·rw [el, List.map_append]
  exact QcF h.lk n
end
def QbM (st : SS) (h : Int) (t0 t1 : T) : SS := match t0 with
 | .box k => if k ∈ st.names then st.addT t1 (fun n => .pair n h) else st.lock k h
 | _ => st.addT t1 (fun n => .pair n h)
def Qet (C CS : Addr) : Sp := fun vs H Q _ => ∃ (q p : Addr) (A : HA) (S : HS) (B : SB) (st : SS) (i : Nat) (b : Box) (t0 t1 : T), vs = [.ref q, .int b.name] ∧ SH C CS H q p A S B st ∧ S.boxes[i]? = some b ∧ b.row[0]? = some t0 ∧ b.row[1]? = some t1 ∧
 st.locked.length < 1000 ∧ (∀ x ∈ st.locked, x.2.length < 1000) ∧ OutH C CS H q p A S B (QbM st b.name t0 t1) Q .non
section
variable {C CS : Addr}
theorem Qb2 (F : Fun K "follow_pair" "Search.follow_pair" Zr f fd) (T : TX K mg C) (TS : TSx K mg CS) (D1_ : DefOk P w K mg base n "box_name" ["thing"] (Zv) [[]])
  (M2_ : MethOk P w K mg base C n "field" ["self", "name", "at"] (Qcj C) [[]])
  (M3_ : MethOk P w K mg base CS n "add_value" ["self", "holder"] (QcQ C CS) [[]]) :
  FnOk P w K mg base CX0 (n + 1) f fd ["self", "holder"] (Qet C CS) := by
 refine F.ok Z2 (by rintro _ _ _ _ ⟨_, _, _, _, _, _, _, _, _, _, rfl, _⟩; rfl) fun _ _ _ s H vs Q E hr h => ?_
 obtain ⟨q, p, A', S, B, st, i, b, t0, t1, rfl, sh, hb, ht0, ht1, hl1, hl2, k⟩ := h
 have hu := Qu hr
 refine ⟨_, (Qb (Qw (i := 2) Z2.nd rfl (Or.inl rfl) (qc D1_ hr (Qa (qm M2_ (QB (pv 0) rfl) T.cl hr (Qa (pv 1) (Qa Qi Qc))) Qc)))
  (Qe (QA (PW.pt (QeH (Qag (Qhz (pv 2))) (Qcc (Qag (pc_din hu (pv 2) (QB (pv 0) rfl)))))) (Qe (Qk (qm M3_ (pv 0) TS.cl hr (Qa (pv 1) Qc)))) (Qe (Qk (Qfp PySem.F.plainAttrs_list PySem.F.slot_list_append PySem.F.type_list_append QaG (Qjm (QB (pv 0) rfl) (pv 2) (Zu Qc) ⟨rfl, rfl, rfl, rfl⟩) (Qa (pv 1) Qc))))))), ?_⟩
 have hs := sh.hs
 refine ⟨_, rfl, q, CS, B.dx, _, _, rfl, hs.ob, TS.cl, TS.n_house, QbQ, p, A'.dx, _, rfl, sh.hh.ob, Qj, _, rfl, p, A', S, i, b, 0, t0, rfl, sh.hh, hb, ht0, fun v tv => ?_⟩
 refine ⟨v, t0, rfl, tv, ?_⟩
 have val : OutH C CS H q p A' S B (st.addT t1 fun n => .pair n b.name) Q .non → Qjf CS "add_value" (QcQ C CS) [] E0 (tVar 0) (QmD (tVar 1) Qnc) [some (.ref q), some (.int b.name), some t0.nm] H (fun _ H1 => Q .non H1) := fun k2 =>
  ⟨_, rfl, q, B.dx, _, rfl, hs.ob, Z1 (by decide +kernel), _, rfl, q, p, A', S, B, st, i, b, t1, rfl, sh, hb, ht1, fun H2 u2 => u2.out k2⟩
 cases t0 with
 | non => exact ⟨_, rfl, _, rfl, QaK (val k)⟩
 | num j => exact ⟨_, rfl, _, rfl, QaK (val k)⟩
 | box key =>
  refine ⟨_, rfl, _, rfl, Qbg ⟨_, rfl, _, rfl, q, CS, B.dx, _, _, rfl, hs.ob, TS.cl, TS.n_listed, Qfc, B.ld, _, rfl, DGet.k (k := Sum.inl key) hs.ld, _, rfl, ?_⟩⟩
  rw [Qeh]
  by_cases hm : key ∈ st.rows.map Rw.nm
  ·rw [decide_eq_true hm]
   refine QaK (val ?_)
   have e : QbM st b.name (.box key) t1 = st.addT t1 fun n => .pair n b.name := if_pos hm
   rw [e] at k
   exact k
  ·rw [decide_eq_false hm]
   have e : QbM st b.name (.box key) t1 = st.lock key b.name := if_neg hm
   rw [e] at k
   refine Qbg ⟨_, rfl, q, CS, B.dx, _, _, rfl, hs.ob, TS.cl, TS.n_locked, Qhs, B.kd, rfl, .inl ⟨_, Rd.of hs.kd⟩, _, rfl, Nat.zero_le _, fun l hl => ?_⟩
   have hkd1 : (upd H l (.lst [])) B.kd = some (.dK (Qch st.locked B.ll)) := Zk hs.kd hl
   have hll : (Qch st.locked B.ll).length < sizeLine := by rw [Qch, List.length_map, List.length_zip]; exact QO (by omega)
   refine ⟨_, Sum.inl key, hkd1, rfl, hll, fun v hv => ?_, fun hn => ?_⟩
   ·-- it is there
    by_cases hin : key ∈ st.locked.map (·.1)
    ·obtain ⟨x, hx, hxe⟩ := List.mem_map.mp hin
     obtain ⟨j, hj⟩ := List.getElem?_of_mem hx
     obtain ⟨k', hs'⟩ := x
     have hxe : k' = key := hxe
     subst hxe
     obtain ⟨a, ha, hia, hva⟩ := hs.lockAt hj
     rw [hva] at hv; cases hv
     have hia1 : (upd H l (.lst [])) a = some (.lst (hs'.map V.int)) := Zk hia hl
     have u1 := (UpS.refl sh).new (o := .lst []) hl
     refine ⟨.inl ⟨rfl, _, SqL.of hia1⟩, _, rfl, a, _, _, rfl, rfl, hia1, by rw [List.length_map]; exact QO (Nat.le_of_lt (show hs'.length < 1000 from hl2 _ hx)), ?_⟩
     have e2 : hs'.map V.int ++ [V.int b.name] = (hs' ++ [b.name]).map V.int := by simp
     rw [e2]
     have ham := List.mem_of_getElem? ha
     exact (u1.step (u1.sh.hs.lockOld hj ha) (fun c o e n => by rw [Qh (fun z => n (by rw [z]; simp [SB.foot, ham]))]; exact e) (Tups.upd hia1 (by intro xs z; cases z)) (Grown.refl _ _) sh.ins).out k
    ·rw [hs.lockNo hin] at hv; cases hv
   ·-- a new list
    have hin : key ∉ st.locked.map (·.1) := fun hin => by
     obtain ⟨x, hx, hxe⟩ := List.mem_map.mp hin
     obtain ⟨j, hj⟩ := List.getElem?_of_mem hx
     obtain ⟨k', hs'⟩ := x
     have hxe : k' = key := hxe
     subst hxe
     obtain ⟨a, ha, hia, hva⟩ := hs.lockAt hj
     rw [hva] at hn; cases hn
    have hlk : l ≠ B.kd := (Qf hs.kd hl).symm
    have h2 : (upd (upd H l (.lst [])) B.kd (.dK (Qci (Qch st.locked B.ll) (Sum.inl key) (.ref l)))) l = some (.lst []) := by rw [Qh hlk]; exact Qd
    refine ⟨.inl ⟨rfl, _, SqL.of h2⟩, _, rfl, l, _, _, rfl, rfl, h2, by show 0 < sizeLine; decide, ?_⟩
    refine ((UpS.refl sh).step (hs.lockNew hin hl) (fun c o e n => ?_) (fun c xs e => ?_) (fun c hc => ?_) sh.ins).out k
    ·rw [Qh (Qf e hl), Qh (fun z => n (by rw [z]; simp [SB.foot])), Qh (Qf e hl)]; exact e
    ·rw [Qh (Qf e hl), Qh (QI e hs.kd (by intro z; cases z)), Qh (Qf e hl)]; exact e
    ·have hc : c ∈ B.foot q ∨ c = l := by
      simp only [SB.foot, List.mem_cons, List.mem_append, List.not_mem_nil, or_false] at hc ⊢
      rcases hc with h | h | h | h | h | h <;> simp [h]
     rcases hc with z | z
     ·exact .inl z
     ·exact .inr (by rw [z]; exact hl)
end
def Just (S : HS) (b0 : Option Int) (ahead : List Int) : Rw → Prop
 | .slot n s => ∃ i : Nat, s = (i : Int) ∧ S.slots[i]? = some (.box n)
 | .told n g => ∃ (i : Nat) (xs : List Int), g = (i : Int) ∧ S.told[i]? = some xs ∧ n ∈ xs
 | .bes n => b0 = some n
 | .plain n h a => h ∈ ahead ∧ ∃ (b : Box) (i : Nat), b ∈ S.boxes ∧ b.name = h ∧ b.kind = "plain" ∧ a = (i : Int) ∧ b.row[i]? = some (.box n)
 | .pair n h => h ∈ ahead ∧ ∃ (b : Box) (t : T), b ∈ S.boxes ∧ b.name = h ∧ b.kind = "pair" ∧ b.row[1]? = some (.box n) ∧ b.row[0]? = some t ∧ ∀ k, t = .box k → k ∈ ahead
section
variable {S : HS} {b0 : Option Int} {st st1 st2 : SS} {r : Rw} {t : T} {mk : Int → Rw}
theorem Just.mono {a a' : List Int} (h : Just S b0 a r) (s : ∀ n ∈ a, n ∈ a') : Just S b0 a' r := by
 cases r with
 | slot n s => exact h
 | told n g => exact h
 | bes n => exact h
 | plain n k i => obtain ⟨h1, h2⟩ := h; exact ⟨s _ h1, h2⟩
 | pair n k => obtain ⟨h1, b, t, x1, x2, x3, x4, x5, x6⟩ := h; exact ⟨s _ h1, b, t, x1, x2, x3, x4, x5, fun k e => s _ (x6 k e)⟩
def Shown (S : HS) (b0 : Option Int) (rows : List Rw) : Prop := ∀ (i : Nat) (r : Rw), rows[i]? = some r → Just S b0 ((rows.take i).map Rw.nm) r
theorem Shown.snoc {rows : List Rw} (h : Shown S b0 rows) (j : Just S b0 (rows.map Rw.nm) r) : Shown S b0 (rows ++ [r]) := fun i x e => by
 by_cases hi : i < rows.length
 ·rw [List.getElem?_append_left hi] at e
  rw [List.take_append_of_le_length (by omega)]
  exact h i x e
 ·have hl := (List.getElem?_eq_some_iff.mp e).1
  have ei : i = rows.length := by simp at hl; omega
  subst ei
  rw [List.getElem?_append_right (Nat.le_refl _)] at e
  simp at e
  subst e
  rw [List.take_left]
  exact j
structure Grow (S : HS) (b0 : Option Int) (st st' : SS) : Prop where
 pre : ∃ more, st'.rows = st.rows ++ more
 lk : st'.locked = st.locked
 sh : Shown S b0 st.rows → Shown S b0 st'.rows
theorem Grow.refl (st : SS) : Grow S b0 st st := ⟨⟨[], by simp⟩, rfl, fun h => h⟩
theorem Grow.trans (a : Grow S b0 st st1) (b : Grow S b0 st1 st2) : Grow S b0 st st2 := by
 obtain ⟨m, e⟩ := a.pre
 obtain ⟨m2, e2⟩ := b.pre
 exact ⟨⟨m ++ m2, by rw [e2, e, List.append_assoc]⟩, b.lk.trans a.lk, fun h => b.sh (a.sh h)⟩
theorem Grow.names (a : Grow S b0 st st1) : ∀ n ∈ st.names, n ∈ st1.names := fun n hn => by
 obtain ⟨m, e⟩ := a.pre
 unfold SS.names
 rw [e, List.map_append]
 exact List.mem_append_left _ hn
theorem Grow.add (h : Just S b0 st.names r) : Grow S b0 st (st.add r) := by
 unfold SS.add
 split
 ·exact Grow.refl _
 ·exact ⟨⟨[r], rfl⟩, rfl, fun z => z.snoc h⟩
theorem Qhb (st : SS) (r : Rw) : r.nm ∈ (st.add r).names := by
 unfold SS.add
 split
 ·assumption
 ·show r.nm ∈ (st.rows ++ [r]).map Rw.nm
  simp
theorem Grow.addT (h : ∀ n, t = .box n → Just S b0 st.names (mk n)) : Grow S b0 st (st.addT t mk) := by
 cases t with
 | non => exact Grow.refl _
 | num i => exact Grow.refl _
 | box n => exact Grow.add (h n rfl)
theorem Qiz (hm : ∀ n, (mk n).nm = n) {n : Int} (e : t = .box n) : n ∈ (st.addT t mk).names := by
 subst e
 have := Qhb st (mk n)
 rw [hm] at this
 exact this
theorem Grow.addTs {mk : Int → Int → Rw} {ts : List T} (hm : ∀ n i, (mk n i).nm = n) (h : ∀ (i : Nat) n, ts[i]? = some (.box n) → Just S b0 st.names (mk n i)) : Grow S b0 st (addTs mk st ts) ∧ ∀ n, .box n ∈ ts → n ∈ (addTs mk st ts).names := by
 have go : ∀ j, j ≤ ts.length → Grow S b0 st (LW.addTs mk st (ts.take j)) ∧ ∀ n, .box n ∈ ts.take j → n ∈ (LW.addTs mk st (ts.take j)).names := by
  intro j
  induction j with
  | zero => exact fun _ => ⟨Grow.refl _, fun n hn => by simp at hn⟩
  | succ j ih =>
   intro hj
   obtain ⟨g, inn⟩ := ih (by omega)
   obtain ⟨t, ht⟩ : ∃ t, ts[j]? = some t := ⟨ts[j], List.getElem?_eq_getElem (by omega)⟩
   have etk : ts.take (j + 1) = ts.take j ++ [t] := by rw [List.take_add_one, ht]; rfl
   have elen : (ts.take j).length = j := by rw [List.length_take]; omega
   rw [etk, Qer, elen]
   have g2 : Grow S b0 (LW.addTs mk st (ts.take j)) ((LW.addTs mk st (ts.take j)).addT t fun n => mk n j) := Grow.addT fun n e => (h j n (by rw [ht, e])).mono g.names
   refine ⟨g.trans g2, fun n hn => ?_⟩
   rcases List.mem_append.mp hn with z | z
   ·exact g2.names n (inn n z)
   ·exact Qiz (fun n => hm n j) (List.mem_singleton.mp z).symm
 have := go ts.length (Nat.le_refl _)
 rw [List.take_length] at this
 exact this
end
def SS.done (st : SS) (k : Nat) : List Int := (st.rows.take k).map Rw.nm
structure FInv (S : HS) (b0 : Option Int) (k : Nat) (st : SS) : Prop where
 sh : Shown S b0 st.rows
 le : k ≤ st.rows.length
 r1 : ∀ n, .box n ∈ S.slots → n ∈ st.names
 r2 : ∀ xs ∈ S.told, ∀ n ∈ xs, n ∈ st.names
 r3 : ∀ n, b0 = some n → n ∈ st.names
 pl : ∀ b ∈ S.boxes, b.name ∈ st.done k → b.kind = "plain" → ∀ n, .box n ∈ b.row → n ∈ st.names
 pr : ∀ b ∈ S.boxes, b.name ∈ st.done k → b.kind = "pair" → ∀ n, b.row[1]? = some (.box n) → n ∈ st.names ∨ ∃ key hs, b.row[0]? = some (.box key) ∧ (key, hs) ∈ st.locked ∧ b.name ∈ hs ∧ key ∉ st.done k
 lo : ∀ x ∈ st.locked, ∀ h ∈ x.2, ∃ b ∈ S.boxes, b.name = h ∧ b.kind = "pair" ∧ b.row[0]? = some (.box x.1) ∧ h ∈ st.names
 ln : st.locked.length ≤ k ∧ ∀ x ∈ st.locked, x.2.length ≤ k
theorem QlU {st st' : SS} {more : List Rw} (e : st'.rows = st.rows ++ more) {k : Nat} (h : k ≤ st.rows.length) : st'.done k = st.done k := by
 unfold SS.done
 rw [e, List.take_append_of_le_length h]
theorem Qk3 {st : SS} {k : Nat} {r : Rw} (h : st.rows[k]? = some r) : st.done (k + 1) = st.done k ++ [r.nm] := by
 unfold SS.done
 rw [List.take_add_one, h, List.map_append]
 rfl
theorem Qdq : ∀ {l : List (Int × List Int)} {k h : Int} {x : Int × List Int}, x ∈ ZD l k h → x ∈ l ∨ (x.1 = k ∧ (x.2 = [h] ∨ ∃ hs, (k, hs) ∈ l ∧ x.2 = hs ++ [h]))
 | [], k, h, x, m => by
  have m : x = (k, [h]) := by simpa [ZD] using m
  subst m
  exact .inr ⟨rfl, .inl rfl⟩
 | y :: l, k, h, x, m => by
  have m : x ∈ (if y.1 = k then (y.1, y.2 ++ [h]) :: l else y :: ZD l k h) := m
  split at m
  ·rename_i e
   rcases List.mem_cons.mp m with z | z
   ·subst z
    exact .inr ⟨e, .inr ⟨y.2, by rw [← e]; exact List.mem_cons_self, rfl⟩⟩
   ·exact .inl (List.mem_cons_of_mem _ z)
  ·rcases List.mem_cons.mp m with z | z
   ·exact .inl (by rw [z]; exact List.mem_cons_self)
   ·rcases Qdq z with q | ⟨q1, q2⟩
    ·exact .inl (List.mem_cons_of_mem _ q)
    ·refine .inr ⟨q1, ?_⟩
     rcases q2 with q | ⟨hs, q, e⟩
     ·exact .inl q
     ·exact .inr ⟨hs, List.mem_cons_of_mem _ q, e⟩
theorem QfH : ∀ (l : List (Int × List Int)) (k h : Int), ∃ hs, (k, hs) ∈ ZD l k h ∧ h ∈ hs
 | [], k, h => ⟨[h], by simp [ZD], by simp⟩
 | y :: l, k, h => by
  show ∃ hs, (k, hs) ∈ (if y.1 = k then (y.1, y.2 ++ [h]) :: l else y :: ZD l k h) ∧ h ∈ hs
  split
  ·rename_i e
   exact ⟨y.2 ++ [h], by rw [e]; exact List.mem_cons_self, by simp⟩
  ·obtain ⟨hs, a, b⟩ := QfH l k h
   exact ⟨hs, List.mem_cons_of_mem _ a, b⟩
theorem Qey : ∀ {l : List (Int × List Int)} {k h : Int} {x : Int × List Int}, x ∈ l → ∃ hs, (x.1, hs) ∈ ZD l k h ∧ ∀ m ∈ x.2, m ∈ hs
 | [], _, _, _, m => by simp at m
 | y :: l, k, h, x, m => by
  show ∃ hs, (x.1, hs) ∈ (if y.1 = k then (y.1, y.2 ++ [h]) :: l else y :: ZD l k h) ∧ _
  rcases List.mem_cons.mp m with z | z
  ·subst z
   split
   ·exact ⟨x.2 ++ [h], List.mem_cons_self, fun m hm => List.mem_append_left _ hm⟩
   ·exact ⟨x.2, List.mem_cons_self, fun m hm => hm⟩
  ·split
   ·exact ⟨x.2, List.mem_cons_of_mem _ z, fun m hm => hm⟩
   ·obtain ⟨hs, a, b⟩ := Qey (k := k) (h := h) z
    exact ⟨hs, List.mem_cons_of_mem _ a, b⟩
theorem QfG : ∀ (l : List (Int × List Int)) (k h : Int), (ZD l k h).length ≤ l.length + 1
 | [], _, _ => by simp [ZD]
 | y :: l, k, h => by
  show (if y.1 = k then (y.1, y.2 ++ [h]) :: l else y :: ZD l k h).length ≤ _
  split
  ·simp
  ·have := QfG l k h
   simp; omega
section
variable {S : HS} {b0 : Option Int} {st st1 st2 : SS} {k : Nat} {r : Rw}
theorem FInv.key (f : FInv S b0 k st) (hr : st.rows[k]? = some r) (g : Grow S b0 st st1) (h1 : ∀ x ∈ st.locked, x.1 = r.nm → ∀ h ∈ x.2, ∀ b ∈ S.boxes, b.name = h → ∀ n, b.row[1]? = some (.box n) → n ∈ st1.names) :
  (∀ b ∈ S.boxes, b.name ∈ st.done k → b.kind = "pair" → ∀ n, b.row[1]? = some (.box n) → n ∈ st1.names ∨ ∃ key hs, b.row[0]? = some (.box key) ∧ (key, hs) ∈ st1.locked ∧ b.name ∈ hs ∧ key ∉ st.done k ++ [r.nm]) := fun b hb hd hk n hn => by
 rcases f.pr b hb hd hk n hn with z | ⟨key, hs, x1, x2, x3, x4⟩
 ·exact .inl (g.names n z)
 ·by_cases e : key = r.nm
  ·exact .inl (h1 (key, hs) x2 e b.name x3 b hb rfl n hn)
  ·refine .inr ⟨key, hs, x1, by rw [g.lk]; exact x2, x3, fun m => ?_⟩
   rcases List.mem_append.mp m with z | z
   ·exact x4 z
   ·exact e (List.mem_singleton.mp z)
end
theorem Qar {bs : List Box} (nd : (bs.map (·.name)).Nodup) {x y : Box} (hx : x ∈ bs) (hy : y ∈ bs) (e : x.name = y.name) : x = y := by
 obtain ⟨i, hi⟩ := List.getElem?_of_mem hx
 obtain ⟨j, hj⟩ := List.getElem?_of_mem hy
 have h1 : (bs.map (·.name))[i]? = some x.name := by rw [List.getElem?_map, hi]; rfl
 have h2 : (bs.map (·.name))[j]? = some x.name := by rw [List.getElem?_map, hj, e]; rfl
 have := QbK nd h1 h2
 subst this
 rw [hi] at hj
 exact Option.some.inj hj
section
variable {S : HS} {b0 : Option Int} {st st1 st2 : SS} {k : Nat} {r : Rw} {bx : Box}
theorem FInv.next (f : FInv S b0 k st) (hr : st.rows[k]? = some r) (g : Grow S b0 st st1) (h1 : ∀ x ∈ st.locked, x.1 = r.nm → ∀ h ∈ x.2, ∀ b ∈ S.boxes, b.name = h → ∀ n, b.row[1]? = some (.box n) → n ∈ st1.names)
  (nd : (S.boxes.map (·.name)).Nodup) (hb : bx ∈ S.boxes) (hn : bx.name = r.nm) (pre : ∃ more, st2.rows = st1.rows ++ more) (sh : Shown S b0 st2.rows) (kp : ∀ x ∈ st1.locked, ∃ hs, (x.1, hs) ∈ st2.locked ∧ ∀ m ∈ x.2, m ∈ hs)
  (lo : ∀ x ∈ st2.locked, ∀ h ∈ x.2, ∃ b ∈ S.boxes, b.name = h ∧ b.kind = "pair" ∧ b.row[0]? = some (.box x.1) ∧ h ∈ st2.names) (ln : st2.locked.length ≤ k + 1 ∧ ∀ x ∈ st2.locked, x.2.length ≤ k + 1)
  (cp : bx.kind = "plain" → ∀ n, .box n ∈ bx.row → n ∈ st2.names) (cq : bx.kind = "pair" → ∀ n, bx.row[1]? = some (.box n) → n ∈ st2.names ∨ ∃ key hs, bx.row[0]? = some (.box key) ∧ (key, hs) ∈ st2.locked ∧ bx.name ∈ hs ∧ key ∉ st.done k ++ [r.nm]) : FInv S b0 (k + 1) st2 := by
 obtain ⟨m1, e1⟩ := g.pre
 obtain ⟨m2, e2⟩ := pre
 have hk := (List.getElem?_eq_some_iff.mp hr).1
 have e3 : st2.rows = st.rows ++ (m1 ++ m2) := by rw [e2, e1, List.append_assoc]
 have hd : st2.done (k + 1) = st.done k ++ [r.nm] := by rw [QlU e3 (by omega), Qk3 hr]
 have up : ∀ n ∈ st1.names, n ∈ st2.names := fun n hn => by unfold SS.names; rw [e2, List.map_append]; exact List.mem_append_left _ hn
 have up0 : ∀ n ∈ st.names, n ∈ st2.names := fun n hn => up n (g.names n hn)
 have kq := f.key hr g h1
 refine ⟨sh, by rw [e3, List.length_append]; omega, fun n h => up0 n (f.r1 n h), fun xs hx n h => up0 n (f.r2 xs hx n h), fun n h => up0 n (f.r3 n h), fun b hb' hd' hkd n h => ?_, fun b hb' hd' hkd n h => ?_, lo, ln⟩
 ·rw [hd] at hd'
  rcases List.mem_append.mp hd' with z | z
  ·exact up0 n (f.pl b hb' z hkd n h)
  ·have e := Qar nd hb' hb ((List.mem_singleton.mp z).trans hn.symm)
   subst e
   exact cp hkd n h
 ·rw [hd] at hd' ⊢
  rcases List.mem_append.mp hd' with z | z
  ·rcases kq b hb' z hkd n h with q | ⟨key, hs, x1, x2, x3, x4⟩
   ·exact .inl (up n q)
   ·obtain ⟨hs2, y1, y2⟩ := kp _ x2
    exact .inr ⟨key, hs2, x1, y1, y2 _ x3, x4⟩
  ·have e := Qar nd hb' hb ((List.mem_singleton.mp z).trans hn.symm)
   subst e
   exact cq hkd n h
theorem FInv.grown (f : FInv S b0 k st) (hr : st.rows[k]? = some r) (g : Grow S b0 st st1) (h1 : ∀ x ∈ st.locked, x.1 = r.nm → ∀ h ∈ x.2, ∀ b ∈ S.boxes, b.name = h → ∀ n, b.row[1]? = some (.box n) → n ∈ st1.names)
  (nd : (S.boxes.map (·.name)).Nodup) (hb : bx ∈ S.boxes) (hn : bx.name = r.nm) (g2 : Grow S b0 st1 st2) (cp : bx.kind = "plain" → ∀ n, .box n ∈ bx.row → n ∈ st2.names) (cq : bx.kind = "pair" → ∀ n, bx.row[1]? = some (.box n) → n ∈ st2.names) : FInv S b0 (k + 1) st2 := by
 have e : st2.locked = st.locked := g2.lk.trans g.lk
 refine f.next hr g h1 nd hb hn g2.pre (g2.sh (g.sh f.sh)) (fun x hx => ⟨x.2, by rw [g2.lk]; exact hx, fun m hm => hm⟩) (fun x hx h hh => ?_) ?_ cp fun hk n h => .inl (cq hk n h)
 ·rw [e] at hx
  obtain ⟨b, x1, x2, x3, x4, x5⟩ := f.lo x hx h hh
  exact ⟨b, x1, x2, x3, x4, g2.names _ (g.names _ x5)⟩
 ·rw [e]
  exact ⟨by have := f.ln.1; omega, fun x hx => by have := f.ln.2 x hx; omega⟩
theorem FInv.pairs (f : FInv S b0 k st) (hr : st.rows[k]? = some r) (g : Grow S b0 st st1) (h1 : ∀ x ∈ st.locked, x.1 = r.nm → ∀ h ∈ x.2, ∀ b ∈ S.boxes, b.name = h → ∀ n, b.row[1]? = some (.box n) → n ∈ st1.names)
  (nd : (S.boxes.map (·.name)).Nodup) (hb : bx ∈ S.boxes) (hn : bx.name = r.nm) (hk : bx.kind = "pair") {t0 t1 : T} (e0 : bx.row[0]? = some t0) (e1 : bx.row[1]? = some t1) : FInv S b0 (k + 1) (QbM st1 bx.name t0 t1) ∧ ∃ more, (QbM st1 bx.name t0 t1).rows = st1.rows ++ more := by
 have hin : bx.name ∈ st1.names := by
  rw [hn]
  exact g.names _ (List.mem_map.mpr ⟨r, List.mem_of_getElem? hr, rfl⟩)
 have np : ¬ bx.kind = "plain" := by rw [hk]; decide +kernel
 have val : (∀ key, t0 = .box key → key ∈ st1.names) → FInv S b0 (k + 1) (st1.addT t1 fun n => .pair n bx.name) ∧ ∃ more, (st1.addT t1 fun n => Rw.pair n bx.name).rows = st1.rows ++ more := fun hkey => by
  have g2 : Grow S b0 st1 (st1.addT t1 fun n => .pair n bx.name) := Grow.addT fun n e => ⟨hin, bx, t0, hb, rfl, hk, by rw [e1, e], e0, hkey⟩
  exact ⟨f.grown hr g h1 nd hb hn g2 (fun z => absurd z np) fun _ n h => Qiz (fun _ => rfl) (by rw [e1] at h; exact Option.some.inj h), g2.pre⟩
 cases t0 with
 | non => exact val fun key e => by cases e
 | num i => exact val fun key e => by cases e
 | box key =>
  show FInv S b0 (k + 1) (if key ∈ st1.names then _ else _) ∧ ∃ more, (if key ∈ st1.names then (_ : SS) else _).rows = _
  by_cases hm : key ∈ st1.names
  ·rw [if_pos hm]
   exact val fun key' e => by cases e; exact hm
  ·rw [if_neg hm]
   have el : st1.locked = st.locked := g.lk
   refine ⟨f.next hr g h1 nd hb hn ⟨[], by simp [SS.lock]⟩ (g.sh f.sh) (fun x hx => Qey hx) (fun x hx h hh => ?_) ⟨?_, fun x hx => ?_⟩ (fun z => absurd z np) (fun _ n h => .inr ?_), [], by simp [SS.lock]⟩
   ·rcases Qdq hx with z | ⟨z1, z2⟩
    ·rw [el] at z
     obtain ⟨b, x1, x2, x3, x4, x5⟩ := f.lo x z h hh
     exact ⟨b, x1, x2, x3, x4, g.names _ x5⟩
    ·have old : h = bx.name → ∃ b ∈ S.boxes, b.name = h ∧ b.kind = "pair" ∧ b.row[0]? = some (.box x.1) ∧ h ∈ (st1.lock key bx.name).names := fun e => by
      subst e
      exact ⟨bx, hb, rfl, hk, by rw [z1]; exact e0, hin⟩
     rcases z2 with q | ⟨hs, q, e⟩
     ·rw [q] at hh
      exact old (List.mem_singleton.mp hh)
     ·rw [e] at hh
      rcases List.mem_append.mp hh with w | w
      ·rw [el] at q
       obtain ⟨b, x1, x2, x3, x4, x5⟩ := f.lo (key, hs) q h w
       exact ⟨b, x1, x2, x3, by rw [z1]; exact x4, g.names _ x5⟩
      ·exact old (List.mem_singleton.mp w)
   ·have := QfG st1.locked key bx.name
    show (ZD st1.locked key bx.name).length ≤ k + 1
    rw [el] at this ⊢
    have := f.ln.1
    omega
   ·rcases Qdq hx with z | ⟨z1, z2⟩
    ·rw [el] at z
     have := f.ln.2 x z
     omega
    ·rcases z2 with q | ⟨hs, q, e⟩
     ·rw [q]; simp
     ·rw [el] at q
      have := f.ln.2 (key, hs) q
      rw [e, List.length_append]
      have h3 : hs.length ≤ k := this
      simp; omega
   ·obtain ⟨hs, q1, q2⟩ := QfH st1.locked key bx.name
    refine ⟨key, hs, e0, q1, q2, fun m => hm ?_⟩
    rcases List.mem_append.mp m with z | z
    ·refine g.names _ ?_
     unfold SS.done at z
     obtain ⟨x, hx, ex⟩ := List.mem_map.mp z
     exact List.mem_map.mpr ⟨x, List.mem_of_mem_take hx, ex⟩
    ·rw [List.mem_singleton.mp z, ← hn]; exact hin
end
def QiJ (C CS : Addr) : Sp := fun vs H Q _ => ∃ (q p : Addr) (A : HA) (S : HS) (B : SB) (st : SS) (b0 : Option Int) (k : Nat) (r : Rw), vs = [.ref q, .int r.nm] ∧ SH C CS H q p A S B st ∧ FInv S b0 k st ∧ st.rows[k]? = some r ∧
 ∀ B' H' st', UpS C CS H q p A S B H' B' st' → FInv S b0 (k + 1) st' → Q .non H'
section
variable {C CS : Addr}
theorem QdM (F : Fun K "follow" "Search.follow" Qal f fd) (T : TX K mg C) (TS : TSx K mg CS) (M1_ : MethOk P w K mg base CS n "add_value" ["self", "holder"] (QcQ C CS) [[]])
  (M2_ : MethOk P w K mg base C n "kind" ["self", "name"] (Qe6 C) [[]])
  (M3_ : MethOk P w K mg base CS n "add_fields" ["self", "holder"] (Qfa C CS) [[]])
  (M4_ : MethOk P w K mg base CS n "follow_pair" ["self", "holder"] (Qet C CS) [[]]) :
  FnOk P w K mg base CX0 (n + 1) f fd ["self", "name"] (QiJ C CS) := by
 refine F.ok Z3 (by rintro _ _ _ _ ⟨_, _, _, _, _, _, _, _, _, rfl, _⟩; rfl) fun _ _ _ s H vs Q E hr h => ?_
 obtain ⟨q, p, A', S, B, st, b0, k, r, rfl, sh, f, hr', kQ⟩ := h
 have hu := Qu hr
 refine ⟨_, (Qb (Q7 PassesOwn.never rfl (QQ (Qlz hu (QB (pv 0) rfl) (pv 1) (Zu Qc) ⟨rfl, rfl, rfl, rfl⟩)) (QR (i := 2) Z3.nd rfl (Or.inl rfl))
  (Qe (Qk (qm M1_ (pv 0) TS.cl hr (Qa (pv 2) Qc)))))
  (Qb (Qw (i := 3) Z3.nd rfl (Or.inl rfl) (qm M2_ (QB (pv 0) rfl) T.cl hr (Qa (pv 1) Qc)))
  (Qb (QA (Qp ZC (pv 3) Qab (Qv _)) (Qe (Qk (qm M3_ (pv 0) TS.cl hr (Qa (pv 1) Qc)))) Qn)
  (Qe (QA (Qp ZC (pv 3) Qab (Qv _)) (Qe (Qk (qm M4_ (pv 0) TS.cl hr (Qa (pv 1) Qc)))) Qn))))), ?_⟩
 have hs := sh.hs
 have nd := sh.hh.nm
 have hrn : r.nm ∈ st.names := List.mem_map.mpr ⟨r, List.mem_of_getElem? hr', rfl⟩
 obtain ⟨bx, hbx, hbn⟩ := List.mem_map.mp (sh.ins _ hrn)
 obtain ⟨ib, hib⟩ := List.getElem?_of_mem hbx
 have hk900 : k < 900 := by have := (List.getElem?_eq_some_iff.mp hr').1; have := sh.few; omega
 refine ⟨_, rfl, q, CS, B.dx, _, _, rfl, hs.ob, TS.cl, TS.n_locked, Qhs, B.kd, rfl, .inl ⟨_, Rd.of hs.kd⟩, _, rfl, Nat.zero_le _, fun l hl => ⟨_, DGet.k (k := Sum.inl r.nm) (Zk hs.kd hl), ?_⟩⟩
 have u1 := (UpS.refl sh).new (o := .lst []) hl
 have hl1 : (upd H l (.lst [])) l = some (.lst []) := Qd
 generalize upd H l (.lst []) = H1 at u1 hl1 ⊢
 obtain ⟨a, hs', ev, hst, hmem, hall⟩ : ∃ (a : Addr) (hs' : List Int), (Qa2 (Qch st.locked B.ll) (Sum.inl r.nm)).getD (.ref l) = .ref a ∧ (∀ (H' : Hp) (st1 : SS), UpS C CS H1 q p A' S B H' B st1 → st1.locked = st.locked → QjK H' hs' a) ∧
   (∀ h ∈ hs', ∃ x ∈ st.locked, x.1 = r.nm ∧ h ∈ x.2) ∧ (∀ x ∈ st.locked, x.1 = r.nm → ∀ h ∈ x.2, h ∈ hs') := by
  by_cases hin : r.nm ∈ st.locked.map (·.1)
  ·obtain ⟨x, hx, hxe⟩ := List.mem_map.mp hin
   obtain ⟨j, hj⟩ := List.getElem?_of_mem hx
   obtain ⟨k', hs'⟩ := x
   have hxe : k' = r.nm := hxe
   subst hxe
   obtain ⟨a, ha, hia, hva⟩ := hs.lockAt hj
   refine ⟨a, hs', by rw [hva]; rfl, fun H' st1 u e => ?_, fun h hh => ⟨_, hx, rfl, hh⟩, fun y hy e h hh => ?_⟩
   ·obtain ⟨a2, ha2, z⟩ := Zt u.sh.hs.ll (show st1.locked[j]? = some (r.nm, hs') by rw [e]; exact hj)
    rw [ha] at ha2; cases ha2
    exact z
   ·obtain ⟨j2, hj2⟩ := List.getElem?_of_mem hy
    have e1 : (st.locked.map (·.1))[j2]? = some r.nm := by rw [List.getElem?_map, hj2]; exact congrArg some e
    have e2 : (st.locked.map (·.1))[j]? = some r.nm := by rw [List.getElem?_map, hj]; rfl
    have := QbK hs.lk e1 e2
    subst this
    rw [hj] at hj2
    cases hj2
    exact hh
  ·have hlf : l ∉ B.foot q := hs.out hl
   refine ⟨l, [], by rw [hs.lockNo hin]; rfl, fun H' st1 u _ => (u.keep hl1 hlf).1, fun h hh => by simp at hh, fun x hx e => absurd (List.mem_map.mpr ⟨x, hx, e⟩) hin⟩
 rw [ev]
 refine ⟨a, rfl, ⟨_, SqL.of (hst H1 st (UpS.refl u1.sh) rfl)⟩, ?_⟩
 refine ZS (K := K) (xs := hs'.map V.int) (fun i σ H' => ∃ v_holder v_kind st1, σ = [some (.ref q), some (.int r.nm), v_holder, v_kind] ∧ UpS C CS H1 q p A' S B H' B st1 ∧ Grow S b0 st st1 ∧ ∀ h ∈ hs'.take i, ∀ b ∈ S.boxes, b.name = h → ∀ n, b.row[1]? = some (.box n) → n ∈ st1.names) ?_ ?_ ?_ ?_
 ·exact ⟨_, _, st, rfl, UpS.refl u1.sh, Grow.refl _, fun h hh => by simp at hh⟩
 ·rintro i σ H2 _ ⟨_, _, st1, rfl, u2, g, _⟩
  exact SqL.of (hst H2 st1 u2 g.lk)
 ·rintro i y σ H2 hy ⟨v1, v2, st1, rfl, u2, g, hdone⟩
  obtain ⟨h, hh, rfl⟩ : ∃ h, hs'[i]? = some h ∧ y = .int h := by
   rw [List.getElem?_map] at hy
   cases e : hs'[i]? with
   | none => rw [e] at hy; cases hy
   | some h => rw [e] at hy; exact ⟨h, rfl, (Option.some.inj hy).symm⟩
  obtain ⟨x, hx, hxe, hhx⟩ := hmem h (List.mem_of_getElem? hh)
  obtain ⟨b, hb, hbn', hbk, hb0, hbin⟩ := f.lo x hx h hhx
  obtain ⟨i2, hi2⟩ := List.getElem?_of_mem hb
  have h2 := sh.ok.pair b hb hbk
  obtain ⟨t1, ht1⟩ : ∃ t1, b.row[1]? = some t1 := ⟨b.row[1]'(by omega), List.getElem?_eq_getElem _⟩
  subst hbn'
  have g2 : Grow S b0 st1 (st1.addT t1 fun n => .pair n b.name) := Grow.addT fun n e => ⟨g.names _ hbin, b, _, hb, rfl, hbk, by rw [ht1, e], hb0, fun key e => by cases e; rw [hxe]; exact g.names _ hrn⟩
  refine ⟨_, rfl, q, B.dx, _, rfl, u2.sh.hs.ob, Z1 (by decide +kernel), _, rfl, q, p, A', S, B, st1, i2, b, t1, rfl, u2.sh, hi2, ht1, fun H3 u3 => ?_⟩
  refine ⟨_, _, _, rfl, u2.trans u3, g.trans g2, fun h' hh' b' hb' e' n hn => ?_⟩
  rw [List.take_add_one, hh] at hh'
  rcases List.mem_append.mp hh' with z | z
  ·exact g2.names n (hdone h' z b' hb' e' n hn)
  ·have z : h' = b.name := by simpa using z
   have e := Qar nd hb' hb (e'.trans z)
   subst e
   exact Qiz (fun _ => rfl) (by rw [ht1] at hn; exact Option.some.inj hn)
 ·rintro σ H2 ⟨v1, v2, st1, rfl, u2, g, hdone⟩
  rw [List.length_map, List.take_length] at hdone
  have h1 : ∀ x ∈ st.locked, x.1 = r.nm → ∀ h ∈ x.2, ∀ b ∈ S.boxes, b.name = h → ∀ n, b.row[1]? = some (.box n) → n ∈ st1.names := fun x hx e h hh => hdone h (hall x hx e h hh)
  have ux : UpS C CS H q p A' S B H2 B st1 := u1.trans u2
  have hin1 : bx.name ∈ st1.names := by rw [hbn]; exact g.names _ hrn
  rw [← hbn]
  refine ⟨_, rfl, q, CS, B.dx, _, _, rfl, ux.sh.hs.ob, TS.cl, TS.n_house, QbQ, p, A'.dx, _, rfl, ux.sh.hh.ob, Qj, _, rfl, p, A', S, ib, bx, rfl, ux.sh.hh, hib, ?_⟩
  refine ⟨_, rfl, rfl, _, rfl, Qgr (fun hp => ?_) (fun hp => ?_)⟩
  ·have hp : bx.kind = "plain" := by simpa using hp
   refine ⟨_, rfl, q, B.dx, _, rfl, ux.sh.hs.ob, Z1 (by decide +kernel), _, rfl, q, p, A', S, B, st1, ib, bx, rfl, ux.sh, hib, fun H3 u3 => ?_⟩
   obtain ⟨g2, inn⟩ := Grow.addTs (S := S) (b0 := b0) (st := st1) (mk := fun n at_ => .plain n bx.name at_) (ts := bx.row) (fun _ _ => rfl) fun i n e => ⟨hin1, bx, i, hbx, rfl, hp, rfl, e⟩
   have np : ¬ bx.kind = "pair" := by rw [hp]; decide +kernel
   refine ⟨_, rfl, rfl, _, rfl, Qgr (fun h => absurd (by simpa using h) np) (fun _ => ?_)⟩
   exact kQ B H3 _ (ux.trans u3) (f.grown hr' g h1 nd hbx hbn g2 (fun _ => inn) fun h => absurd h np)
  ·have hp : ¬ bx.kind = "plain" := by simpa using hp
   refine ⟨_, rfl, rfl, _, rfl, Qgr (fun h => ?_) (fun h => ?_)⟩
   ·have hq : bx.kind = "pair" := by simpa using h
    have h2 := sh.ok.pair bx hbx hq
    obtain ⟨t0, ht0⟩ : ∃ t0, bx.row[0]? = some t0 := ⟨bx.row[0]'(by omega), List.getElem?_eq_getElem _⟩
    obtain ⟨t1, ht1⟩ : ∃ t1, bx.row[1]? = some t1 := ⟨bx.row[1]'(by omega), List.getElem?_eq_getElem _⟩
    have el : st1.locked = st.locked := g.lk
    refine ⟨_, rfl, q, B.dx, _, rfl, ux.sh.hs.ob, Z1 (by decide +kernel), _, rfl, q, p, A', S, B, st1, ib, bx, t0, t1, rfl, ux.sh, hib, ht0, ht1, by rw [el]; have := f.ln.1; omega, by rw [el]; intro x hx; have := f.ln.2 x hx; omega, fun B3 H3 u3 => ?_⟩
    exact kQ B3 H3 _ (ux.trans u3) (f.pairs hr' g h1 nd hbx hbn hq ht0 ht1).1
   ·have hq : ¬ bx.kind = "pair" := by simpa using h
    exact kQ B H2 _ ux (f.grown hr' g h1 nd hbx hbn (Grow.refl _) (fun z => absurd z hp) fun z => absurd z hq)
end
inductive QfW (S : HS) (b0 : Option Int) : Int → Prop where
 | slot {n : Int} : .box n ∈ S.slots → QfW S b0 n
 | told {n : Int} {xs : List Int} : xs ∈ S.told → n ∈ xs → QfW S b0 n
 | bes {n : Int} : b0 = some n → QfW S b0 n
 | plain {b : Box} {n : Int} : b ∈ S.boxes → b.kind = "plain" → QfW S b0 b.name → .box n ∈ b.row → QfW S b0 n
 | pairN {b : Box} {t : T} {n : Int} : b ∈ S.boxes → b.kind = "pair" → QfW S b0 b.name → b.row[0]? = some t → (∀ k, t ≠ .box k) → b.row[1]? = some (.box n) → QfW S b0 n
 | pairK {b : Box} {k n : Int} : b ∈ S.boxes → b.kind = "pair" → QfW S b0 b.name → b.row[0]? = some (.box k) → QfW S b0 k → b.row[1]? = some (.box n) → QfW S b0 n
structure Closed (S : HS) (b0 : Option Int) (ns : List Int) : Prop where
 r1 : ∀ n, .box n ∈ S.slots → n ∈ ns
 r2 : ∀ xs ∈ S.told, ∀ n ∈ xs, n ∈ ns
 r3 : ∀ n, b0 = some n → n ∈ ns
 pl : ∀ b ∈ S.boxes, b.name ∈ ns → b.kind = "plain" → ∀ n, .box n ∈ b.row → n ∈ ns
 pr : ∀ b ∈ S.boxes, b.name ∈ ns → b.kind = "pair" → ∀ t n, b.row[0]? = some t → (∀ k, t = .box k → k ∈ ns) → b.row[1]? = some (.box n) → n ∈ ns
theorem FInv.closed {S : HS} {b0 : Option Int} {st : SS} (f : FInv S b0 st.rows.length st) : Closed S b0 st.names := by
 have e : st.done st.rows.length = st.names := by unfold SS.done SS.names; rw [List.take_length]
 refine ⟨f.r1, f.r2, f.r3, fun b hb hn => ?_, fun b hb hn hk t n h0 hkey h1 => ?_⟩
 ·exact f.pl b hb (by rw [e]; exact hn)
 ·rcases f.pr b hb (by rw [e]; exact hn) hk n h1 with z | ⟨key, hs, x1, _, _, x4⟩
  ·exact z
  ·rw [h0] at x1
   cases x1
   rw [e] at x4
   exact absurd (hkey key rfl) x4
theorem Closed.held {S : HS} {b0 : Option Int} {ns : List Int} (c : Closed S b0 ns) {n : Int} (h : QfW S b0 n) : n ∈ ns := by
 induction h with
 | slot h => exact c.r1 _ h
 | told h h2 => exact c.r2 _ h _ h2
 | bes h => exact c.r3 _ h
 | plain hb hk _ hr ih => exact c.pl _ hb ih hk _ hr
 | pairN hb hk _ h0 hn h1 ih => exact c.pr _ hb ih hk _ _ h0 (fun k e => absurd e (hn k)) h1
 | pairK hb hk _ h0 _ h1 ih ih2 => exact c.pr _ hb ih hk _ _ h0 (fun k e => by cases e; exact ih2) h1
theorem Shown.held {S : HS} {b0 : Option Int} {rows : List Rw} (h : Shown S b0 rows) : ∀ n ∈ rows.map Rw.nm, QfW S b0 n := by
 have go : ∀ j, j ≤ rows.length → ∀ n ∈ (rows.take j).map Rw.nm, QfW S b0 n := by
  intro j
  induction j with
  | zero => intro _ n hn; simp at hn
  | succ j ih =>
   intro hj n hn
   have ih := ih (by omega)
   obtain ⟨r, hr⟩ : ∃ r, rows[j]? = some r := ⟨rows[j], List.getElem?_eq_getElem (by omega)⟩
   rw [List.take_add_one, hr, List.map_append] at hn
   rcases List.mem_append.mp hn with z | z
   ·exact ih n z
   ·have z : n = r.nm := by simpa using z
    subst z
    have js := h j r hr
    cases r with
    | slot n s => obtain ⟨i, _, e⟩ := js; exact .slot (List.mem_of_getElem? e)
    | told n g => obtain ⟨i, xs, _, e, hx⟩ := js; exact .told (List.mem_of_getElem? e) hx
    | bes n => exact .bes js
    | plain n k a =>
     obtain ⟨h1, b, i, hb, hbn, hbk, _, e⟩ := js
     exact .plain hb hbk (by rw [hbn]; exact ih _ h1) (List.mem_of_getElem? e)
    | pair n k =>
     obtain ⟨h1, b, t, hb, hbn, hbk, e1, e0, hk⟩ := js
     have hh : QfW S b0 b.name := by rw [hbn]; exact ih _ h1
     cases t with
     | non => exact .pairN hb hbk hh e0 (fun k e => by cases e) e1
     | num i => exact .pairN hb hbk hh e0 (fun k e => by cases e) e1
     | box key => exact .pairK hb hbk hh e0 (ih _ (hk key rfl)) e1
 have := go rows.length (Nat.le_refl _)
 rw [List.take_length] at this
 exact this
def Qe8 (C CS : Addr) : Sp := fun vs H Q _ => ∃ (q p : Addr) (A : HA) (S : HS) (B : SB) (st : SS) (b0 : Option Int), vs = [.ref q] ∧ SH C CS H q p A S B st ∧ FInv S b0 0 st ∧
 ∀ B' H' st', UpS C CS H q p A S B H' B' st' → FInv S b0 st'.rows.length st' → Q .non H'
def Qj8 (CS : Addr) : Sp := fun vs H Q _ => ∃ (q p dx : Addr), vs = [.ref q, .ref p] ∧ H q = some (.ins CS dx []) ∧ ∀ B' H', SearchAt CS H' q p B' ⟨[], []⟩ → Frame [q] H H' → Tups H H' → Grown [q] (B'.foot q) H → Q .non H'
def besV : Option Int → V
 | none => .non
 | some n => .int n
def Qj4 (C : Addr) : Sp := fun vs H Q _ => ∃ (p : Addr) (A : HA) (S : HS) (b0 : Option Int), vs = [.ref p, besV b0] ∧ HouseAt C H p A S ∧ S.Ok ∧ (∀ n, b0 = some n → n ∈ names S) ∧
 ∀ l rows H', Same H H' → H l = none → Qms H' l rows → Shown S b0 rows → (rows.map Rw.nm).Nodup → Closed S b0 (rows.map Rw.nm) → (∀ n ∈ rows.map Rw.nm, n ∈ names S) → Q (.ref l) H'
def QiG (C : Addr) : Sp := fun vs H Q _ => ∃ (p : Addr) (A : HA) (S : HS) (b0 : Option Int), vs = [.ref p, besV b0] ∧ HouseAt C H p A S ∧ S.Ok ∧ S.boxes.length < 64 ∧ (∀ n, b0 = some n → n ∈ names S) ∧
 ∀ (l : Addr) (ns : List Int) (H' : Hp), Same H H' → H l = none → H' l = some (.lst (ns.map V.int)) → ns.Pairwise (· < ·) → (∀ n, n ∈ ns ↔ QfW S b0 n) → Q (.ref l) H'
theorem Qjv (p rl ld kd : Addr) : QdH "locked" (V.ref kd) (QdH "listed" (V.ref ld) (QdH "rows" (V.ref rl) (QdH "house" (V.ref p) []))) = Qhv p ⟨0, rl, ld, kd, []⟩ := by
 kernel_rfl
def atOf : St → Nat
 | [_, some (V.int i)] => (901 - i).toNat
 | _ => 0
section
variable {C CS : Addr}
theorem Qcf (F : Fun K "follow_all" "Search.follow_all" Zy f fd) (T : TX K mg C) (TS : TSx K mg CS) (M1_ : MethOk P w K mg base CS n "follow" ["self", "name"] (QiJ C CS) [[]]) :
  FnOk P w K mg base CX0 (n + 1) f fd ["self"] (Qe8 C CS) := by
 refine F.ok Zp (by rintro _ _ _ _ ⟨_, _, _, _, _, _, _, rfl, _⟩; rfl) fun _ _ _ s H vs Q E hr h => ?_
 obtain ⟨q, p, A', S, B, st, b0, rfl, sh, f, kQ⟩ := h
 have hu := Qu hr
 refine ⟨_, (Qb (Qw (i := 1) Zp.nd rfl (Or.inl rfl) Qi)
  (Qe (QiP PassesOwn.never (Qp QgN (pv 1) (Qo Qs (by rfl) T.g_len PySem.boot_len (Qa (QB (pv 0) rfl) Qc)) (Qv _))
  (Qb (Qk (qm M1_ (pv 0) TS.cl hr (Qa (Zf Qbp (Zf QN (QB (pv 0) rfl) (pv 1) (fun _ _ => rfl)) Qi (fun _ _ => rfl)) Qc)))
  (Qe (Qme (i := 1) Zp.nd rfl (Or.inl rfl) Qi Qmp)))))), ?_⟩
 refine QiA (fun σ H' => ∃ (k : Nat) (B1 : SB) (st1 : SS), σ = [some (.ref q), some (.int k)] ∧ UpS C CS H q p A' S B H' B1 st1 ∧ FInv S b0 k st1) (fun σ _ => atOf σ) ⟨0, B, st, rfl, UpS.refl sh, f⟩ ?_ ?_
 ·rintro σ H1 ⟨k, B1, st1, rfl, u, f1⟩
  obtain ⟨vs, hv, pr⟩ := u.sh.hs.rl
  refine ⟨_, rfl, _, rfl, q, CS, B1.dx, _, _, rfl, u.sh.hs.ob, TS.cl, TS.n_rows, Qfb, B1.rl, vs, rfl, .inl (SqL.of hv), _, _, rfl, rfl, _, rfl, Qgr (fun h => ?_) (fun h => ?_)⟩
  ·have h : (k : Int) < (vs.length : Int) := of_decide_eq_true h
   have hk : k < st1.rows.length := by rw [QG pr]; omega
   obtain ⟨r, hr'⟩ : ∃ r, st1.rows[k]? = some r := ⟨st1.rows[k], List.getElem?_eq_getElem hk⟩
   obtain ⟨v, hx, a, rfl, hta⟩ := Zt pr hr'
   obtain ⟨more, hvs⟩ := r.first
   have hix : atI r.vs 0 = some (.int r.nm) := by rw [hvs]; exact QZ (j := 0) rfl
   have few := u.sh.few
   refine ⟨_, rfl, q, B1.dx, _, rfl, u.sh.hs.ob, Z1 (by decide +kernel), _, rfl, q, CS, B1.dx, _, _, rfl, u.sh.hs.ob, TS.cl, TS.n_rows, Qfb, _, rfl, B1.rl, vs, k, .ref a, rfl, rfl, SqL.of hv, QZ hx, a, _, 0, .int r.nm, rfl, rfl, SqT.of hta, hix, ?_⟩
   refine ⟨q, p, A', S, B1, st1, b0, k, r, rfl, u.sh, f1, hr', fun B2 H2 st2 u2 f2 => ?_⟩
   refine ⟨_, rfl, k, 1, rfl, rfl, ⟨k + 1, B2, st2, rfl, u.trans u2, f2⟩, ?_⟩
   show (901 - ((k : Int) + 1)).toNat < (901 - (k : Int)).toNat
   omega
  ·have h : ¬ (k : Int) < (vs.length : Int) := fun z => h (decide_eq_true z)
   have e : k = st1.rows.length := by have := f1.le; have := QG pr; omega
   subst e
   exact kQ B1 H1 st1 u f1
 ·intro σ H1 Q1 Q2 hQ h
  obtain ⟨v, e1, v2, e2, x1, x2, x3, x4, x5, e3, e4, c1, c2, e5, y1, y2, e6, e7, z1, z2, e8, e9, z3, e10, z⟩ := h
  exact ⟨v, e1, v2, e2, x1, x2, x3, x4, x5, e3, e4, c1, c2, e5, y1, y2, e6, e7, z1, z2, e8, e9, z3, e10, hQ _ _ z⟩
end
theorem QmY {X : Cx} {K' : Fg} (h : X.K = K') : IxR X (rIxT K') := h ▸ Qbp
section
variable {S : HS} {b0 : Option Int}
theorem Grow.addNs {g : Nat} {xs : List Int} (he : S.told[g]? = some xs) : ∀ {ns : List Int} {st : SS}, (∀ n ∈ ns, n ∈ xs) → Grow S b0 st (addNs g st ns) ∧ ∀ n ∈ ns, n ∈ (addNs g st ns).names
 | [], st, _ => ⟨Grow.refl _, fun n hn => by cases hn⟩
 | n :: ns, st, h => by
  have a : Grow S b0 st (st.add (.told n g)) := Grow.add ⟨g, xs, rfl, he, h n (by simp)⟩
  have b := Grow.addNs he (ns := ns) (st := st.add (.told n g)) fun m hm => h m (by simp [hm])
  refine ⟨a.trans b.1, fun m hm => ?_⟩
  rcases List.mem_cons.mp hm with rfl | hm
  ·exact b.1.names _ (Qhb _ (.told m g))
  ·exact b.2 m hm
theorem Grow.toldFrom : ∀ {tss : List (List Int)} {j : Nat} {st : SS}, (∀ i xs, tss[i]? = some xs → S.told[j + i]? = some xs) →
  Grow S b0 st ((tss.zipIdx j).foldl (fun st x => LW.addNs x.2 st x.1) st) ∧ ∀ xs ∈ tss, ∀ n ∈ xs, n ∈ ((tss.zipIdx j).foldl (fun st x => LW.addNs x.2 st x.1) st).names
 | [], j, st, _ => ⟨Grow.refl _, fun n hn => by cases hn⟩
 | xs :: tss, j, st, h => by
  have a := Grow.addNs (b0 := b0) (h 0 xs rfl) (ns := xs) (st := st) fun n hn => hn
  have b := Grow.toldFrom (tss := tss) (j := j + 1) (st := LW.addNs j st xs) fun i ys e => by
   have := h (i + 1) ys e
   rwa [show j + (i + 1) = j + 1 + i by omega] at this
  refine ⟨a.1.trans b.1, fun ys hy n hn => ?_⟩
  rcases List.mem_cons.mp hy with rfl | hy
  ·exact b.1.names _ (a.2 n hn)
  ·exact b.2 ys hy n hn
theorem Grow.told (st : SS) : Grow S b0 st (Qb9 st S.told) ∧ ∀ xs ∈ S.told, ∀ n ∈ xs, n ∈ (Qb9 st S.told).names :=
 Grow.toldFrom (j := 0) fun i xs e => by rw [Nat.zero_add]; exact e
theorem Grow.slots (st : SS) : Grow S b0 st (LW.addTs (fun n s => .slot n s) st S.slots) ∧ ∀ n, .box n ∈ S.slots → n ∈ (LW.addTs (fun n s => .slot n s) st S.slots).names :=
 Grow.addTs (fun _ _ => rfl) fun i n e => ⟨i, rfl, e⟩
theorem FInv.start {st : SS} (g : Grow S b0 ⟨[], []⟩ st) (r1 : ∀ n, .box n ∈ S.slots → n ∈ st.names) (r2 : ∀ xs ∈ S.told, ∀ n ∈ xs, n ∈ st.names) (r3 : ∀ n, b0 = some n → n ∈ st.names) : FInv S b0 0 st := by
 obtain ⟨_, lk, shw⟩ := g
 have lk : st.locked = [] := lk
 refine ⟨shw (fun i r e => by cases e), Nat.zero_le _, r1, r2, r3, fun b _ h => ?_, fun b _ h => ?_, fun x hx => ?_, ?_⟩
 ·simp [SS.done] at h
 ·simp [SS.done] at h
 ·rw [lk] at hx; cases hx
 ·rw [lk]; exact ⟨Nat.le_refl _, fun x hx => by cases hx⟩
end
section
variable {C CS : Addr}
theorem QeI (F : Fun K "__init__" "Search.__init__" Qa4 f fd) (T : TX K mg C) (TS : TSx K mg CS)  :
  FnOk P w K mg base CX0 (n + 1) f fd ["self", "house"] (Qj8 CS) := by
 refine F.ok QeC (by rintro _ _ _ _ ⟨_, _, _, rfl, _⟩; rfl) fun _ _ _ s H vs Q E hr h => ?_
 obtain ⟨q, p, dx, rfl, hq, k⟩ := h
 have hu := Qu hr
 refine ⟨_, (Qb (Qcd (pv 0) (pv 1) rfl)
  (Qb (Qcd (pv 0) (Zu Qc) rfl)
  (Qb (Qcd (pv 0) Qbn rfl)
  (Qe (Qcd (pv 0) Qbn rfl))))), ?_⟩
 refine ⟨_, rfl, _, rfl, q, CS, dx, _, rfl, hq, TS.cl, TS.n_house, (by show 0 < 1000; decide), ?_⟩
 refine ⟨by decide, fun l hl => ?_⟩
 have p1 : q ≠ l := Qf Qd hl
 refine ⟨_, rfl, q, CS, dx, _, rfl, (by rw [Qh p1]; exact Qd), TS.cl, TS.n_rows, (by show 1 < 1000; decide), ?_⟩
 intro d1 hd1
 have p2 : q ≠ d1 := Qf Qd hd1
 refine ⟨_, rfl, q, CS, dx, _, rfl, (by rw [Qh p2]; exact Qd), TS.cl, TS.n_listed, (by show 2 < 1000; decide), ?_⟩
 intro d2 hd2
 have p3 : q ≠ d2 := Qf Qd hd2
 refine ⟨_, rfl, q, CS, dx, _, rfl, (by rw [Qh p3]; exact Qd), TS.cl, TS.n_locked, (by show 3 < 1000; decide), ?_⟩
 rw [Qjv]
 have fl : H l = none := QaQ hl
 have f1 : H d1 = none := QaQ (QaQ (QaQ hd1))
 have f2 : H d2 = none := QaQ (QaQ (QaQ (QaQ (QaQ hd2))))
 have l1 : d1 ≠ d2 := Qf (Qb5 Qd p2.symm) hd2
 refine k ⟨dx, l, d1, d2, []⟩ _ ⟨Qd, ⟨[], Qb5 (Zk (Qb5 (Zk (Qb5 Qd p1.symm) hd1) p1.symm) hd2) p1.symm, .nil⟩, Qb5 (Zk (Qb5 Qd p2.symm) hd2) p2.symm, Qb5 Qd p3.symm, .nil, by simp, l1, List.nodup_nil, List.nodup_nil⟩ (fun b o h n => ?_) (fun b xs h => ?_) (fun b hb => ?_)
 ·have n : b ≠ q := fun e => n (by simp [e])
  exact Qb5 (Zk (Qb5 (Zk (Qb5 (Zk (Qb5 h n) hl) n) hd1) n) hd2) n
 ·have n : b ≠ q := fun e => by subst e; rw [hq] at h; cases h
  exact Qb5 (Zk (Qb5 (Zk (Qb5 (Zk (Qb5 h n) hl) n) hd1) n) hd2) n
 ·simp [SB.foot] at hb
  rcases hb with rfl | rfl | rfl | rfl
  ·exact .inl (by simp)
  ·exact .inr f1
  ·exact .inr f2
  ·exact .inr fl
theorem Qjp {ds : List Value} (F : FunD K "paper" "paper" Qfk f fd ds) (T : TX K mg C) (TS : TSx K mg CS) (D1_ : MakeOk P w K mg base CS n ["self", "house"] (Qj8 CS) [[]])
  (M2_ : MethOk P w K mg base CS n "add_slots" ["self"] (Qgi C CS) [[]])
  (M3_ : MethOk P w K mg base CS n "add_told" ["self"] (Qhr C CS) [[]])
  (M4_ : MethOk P w K mg base CS n "add_row" ["self", "row"] (QcR CS) [[]])
  (M5_ : MethOk P w K mg base CS n "follow_all" ["self"] (Qe8 C CS) [[]]) :
  FnOk P w K mg base CX0 (n + 1) f fd ["house", "besides"] (Qj4 C) := by
 obtain ⟨fI1_, fdI1_, jI1_, hjI1_, MK1_, GI1_, bI1_⟩ := D1_
 refine F.ok Qgk (by rintro _ _ _ _ ⟨_, _, _, _, rfl, _⟩; rfl) fun _ _ _ s H vs Q E hr h => ?_
 obtain ⟨p, A', S, b0, rfl, hh, ok, hb0, k⟩ := h
 have hu := Qu hr
 refine ⟨_, (Qb (Qw (i := 2) Qgk.nd rfl (Or.inl rfl) (Qks MK1_ GI1_ (hr.mono hjI1_) (by rfl) TS.g_search (bI1_ [] (by simp)) .nil Qig (Qa (pv 0) Qc)))
  (Qb (Qk (qm0 M2_ (pv 2) TS.cl hr))
  (Qb (Qk (qm0 M3_ (pv 2) TS.cl hr))
  (Qb (QA (Qag (Qbz (pv 1))) (Qe (Qk (qm M4_ (pv 2) TS.cl hr (Qa (QaE (Qa (pv 1) (Qa Qab Qc))) Qc)))) Qn)
  (Qb (Qk (qm0 M5_ (pv 2) TS.cl hr))
  (Qe (Qq (QB (pv 2) rfl)))))))), ?_⟩
 refine ⟨_, rfl, fun x dx nx ndx nex => ?_⟩
 refine ⟨x, p, dx, rfl, Qd, fun B1 H1 hs1 fr1 tu1 gr1 => ⟨rfl, ?_⟩⟩
 have s1 : Same H H1 := fun b o e => fr1 b o (Qb5 (Zk e ndx) (Qf e nx)) (by simpa using Qf e nx)
 have f1 : ∀ b ∈ B1.foot x, H b = none := fun b hb => by
  rcases gr1 b hb with z | z
  ·rw [List.mem_singleton.mp z]; exact nx
  ·exact QaQ (QaQ z)
 have sh1 : SH C CS H1 x p A' S B1 ⟨[], []⟩ := ⟨hs1, hh.same s1, fun b hb z => hh.out (f1 b z) hb, fun n hn => (by cases hn), ok⟩
 have fin : ∀ B5 H5 st5, UpS C CS H1 x p A' S B1 H5 B5 st5 → FInv S b0 st5.rows.length st5 → Q (.ref B5.rl) H5 := fun B5 H5 st5 u f => by
  have hr5 : H B5.rl = none := by
   rcases u.gr B5.rl (by simp [SB.foot]) with z | z
   ·exact f1 _ z
   ·cases e : H B5.rl with
    | none => rfl
    | some o => rw [s1 _ _ e] at z; cases z
  exact k B5.rl st5.rows H5 (fun b o e => u.fr b o (s1 b o e) (fun z => by rw [f1 b z] at e; cases e)) hr5 u.sh.hs.rl f.sh u.sh.hs.un f.closed u.sh.ins
 refine ⟨_, rfl, x, B1.dx, _, rfl, sh1.hs.ob, Z1 (by decide +kernel), ?_⟩
 refine ⟨x, p, A', S, B1, _, rfl, sh1, fun H2 u2 => ?_⟩
 refine ⟨_, rfl, x, B1.dx, _, rfl, u2.sh.hs.ob, Z1 (by decide +kernel), ?_⟩
 refine ⟨x, p, A', S, B1, _, rfl, u2.sh, fun H3 u3 => ?_⟩
 have u3 := u2.trans u3
 have g1 := Grow.slots (S := S) (b0 := b0) ⟨[], []⟩
 have g2 := Grow.told (S := S) (b0 := b0) (addTs (fun n s => .slot n s) ⟨[], []⟩ S.slots)
 have g := g1.1.trans g2.1
 have r1 := fun n h => g2.1.names n (g1.2 n h)
 have r2 := g2.2
 generalize Qb9 (addTs (fun n s => .slot n s) ⟨[], []⟩ S.slots) S.told = st3 at u3 g r1 r2
 cases b0 with
 | none =>
  refine ⟨_, rfl, _, rfl, Qbg ?_⟩
  refine ⟨_, rfl, x, B1.dx, _, rfl, u3.sh.hs.ob, Z1 (by decide +kernel), ?_⟩
  refine ⟨x, p, A', S, B1, _, none, rfl, u3.sh, FInv.start g r1 r2 (fun n e => by cases e), fun B5 H5 st5 u5 f5 => ?_⟩
  exact ⟨_, rfl, x, CS, B5.dx, _, _, rfl, u5.sh.hs.ob, TS.cl, TS.n_rows, Qfb, fin B5 H5 st5 (u3.trans u5) f5⟩
 | some m =>
  refine ⟨_, rfl, _, rfl, QaK ⟨_, rfl, x, B1.dx, _, rfl, u3.sh.hs.ob, Z1 (by decide +kernel), _, rfl, zl, fun r hr => ?_⟩⟩
  have u4 := u3.new (o := .tup (Rw.bes m).vs) hr
  refine ⟨x, p, r, B1, _, .bes m, rfl, u4.sh.hs, Qd, by have := u4.sh.few; omega, fun H4 h4 fr4 tu4 => ?_⟩
  have u5 := u4.step h4 fr4 tu4 (Grown.refl _ _) (SS.add_ins u4.sh.ins (hb0 m rfl))
  have g5 : Grow S (some m) st3 (st3.add (.bes m)) := Grow.add rfl
  refine ⟨_, rfl, x, B1.dx, _, rfl, u5.sh.hs.ob, Z1 (by decide +kernel), ?_⟩
  refine ⟨x, p, A', S, B1, _, some m, rfl, u5.sh, FInv.start (g.trans g5) (fun n h => g5.names n (r1 n h)) (fun xs h n hn => g5.names n (r2 xs h n hn)) (fun n e => by cases e; exact Qhb st3 (.bes m)), fun B6 H6 st6 u6 f6 => ?_⟩
  exact ⟨_, rfl, x, CS, B6.dx, _, _, rfl, u6.sh.hs.ob, TS.cl, TS.n_rows, Qfb, fin B6 H6 st6 (u5.trans u6) f6⟩
end
section
variable {C CS : Addr}
theorem Qha : Qz (Qg QbH) ["house", "besides"] (QD ((Qiy 0 (Qhw (QeB (Qr QbH) 0))))) "row" [] [] :=
 bsk
theorem Qik {ds : List Value} (F : FunD K "living" "living" QbH f fd ds) (T : TX K mg C) (D1_ : DefOk P w K mg base n "paper" ["house", "besides"] (Qj4 C) [[], [.none]]) :
  FnOk P w K mg base CX0 (n + 1) f fd ["house", "besides"] (QiG C) := by
 refine F.ok Qh9 (by rintro _ _ _ _ ⟨_, _, _, _, rfl, _⟩; rfl) fun _ _ _ s H vs Q E hr h => ?_
 obtain ⟨p, A', S, b0, rfl, hh, ok, h64, hb0, k⟩ := h
 have hu := Qu hr
 refine ⟨_, (Qe (Qq (Qo QhU (by rfl) T.g_sorted PyProof.Rows.boot_sorted (Qa (Qbd Qha rfl (QQ (qc D1_ hr (Qa (pv 0) (Qa (pv 1) Qc)))) (fun _ _ _ _ => Zd) (fun _ _ _ _ => (Zf (QmY (K' := K) rfl) (pv 0) Qi (fun _ _ => rfl)))) Qc)))), ?_⟩
 refine ⟨_, rfl, _, rfl, p, A', S, b0, rfl, hh, ok, hb0, fun l rows H1 s1 nl hrows shw nd cl ins => ?_⟩
 obtain ⟨vs, hv, pr⟩ := hrows
 have len := QG pr
 have few : rows.length < 64 := by
  have := QbJ nd ins
  simp [names] at this
  omega
 refine ⟨l, rfl, ⟨_, SqL.of hv⟩, ?_⟩
 refine ZE (xs := vs) (fun i ys H' => H' = H1 ∧ ys = (rows.take i).map fun r => V.int r.nm) ⟨rfl, rfl⟩ ?_ (Nat.le_trans (by omega) (show 64 ≤ sizeLine by decide)) ?_ ?_ ?_
 ·rintro i ys H' ⟨_, rfl⟩
  rw [List.length_map, List.length_take]; omega
 ·rintro i ys H' _ ⟨rfl, _⟩
  exact SqL.of hv
 ·rintro i x ys H' hx ⟨rfl, rfl⟩
  obtain ⟨r, hr', a, rfl, hta⟩ := QM pr hx
  obtain ⟨more, hvs⟩ := r.first
  have hix : atI r.vs 0 = some (.int r.nm) := by rw [hvs]; exact QZ (j := 0) rfl
  unfold Qc0
  dsimp only
  rw [if_pos rfl]
  refine ⟨_, rfl, a, _, 0, .int r.nm, rfl, rfl, SqT.of hta, hix, rfl, ?_⟩
  rw [List.take_add_one, hr', List.map_append]; rfl
 ·rintro ys H' ⟨rfl, rfl⟩ a ha
  rw [← len, List.take_length]
  have s2 := s1.trans (Same.new (o := .lst (rows.map fun r => V.int r.nm)) ha)
  refine ⟨a, rows.map Rw.nm, rfl, SqL.of (by rw [Qd, List.map_map]; rfl), by simpa using few, fun b ns' hb hp hs => ?_⟩
  have hb0' : H b = none := by
   cases e : H b with
   | none => rfl
   | some o => rw [s2 _ _ e] at hb; cases hb
  exact k b ns' _ (s2.trans (Same.new hb)) hb0' Qd ((hs.and (hp.nodup_iff.mpr nd)).imp fun z => by have z1 := z.1; have z2 := z.2; omega) fun n => hp.mem_iff.trans ⟨shw.held n, cl.held⟩
end
def QC : List T → List Int
 | [] => []
 | .box n :: ts => n :: QC ts
 | _ :: ts => QC ts
theorem Qax : ∀ (a b : List T), QC (a ++ b) = QC a ++ QC b
 | [], b => rfl
 | .box n :: ts, b => by simp [QC, Qax ts b]
 | .non :: ts, b => by simp [QC, Qax ts b]
 | .num m :: ts, b => by simp [QC, Qax ts b]
theorem Qap {n : Int} : ∀ {ts : List T}, n ∈ QC ts ↔ .box n ∈ ts
 | [] => by simp [QC]
 | .box m :: ts => by simp [QC, Qap (ts := ts)]
 | .non :: ts => by simp [QC, Qap (ts := ts)]
 | .num m :: ts => by simp [QC, Qap (ts := ts)]
theorem QcZ : ∀ (ts : List T), (QC ts).length ≤ ts.length
 | [] => Nat.le_refl _
 | .box m :: ts => by have := QcZ ts; simp [QC]; omega
 | .non :: ts => by have := QcZ ts; simp [QC]; omega
 | .num m :: ts => by have := QcZ ts; simp [QC]; omega
section
variable {C CS : Addr}
end
end LW
namespace LW
open PySem L2
section
variable {C CS : Addr}
end
end LW
namespace L2
open PySem PySem.Spec PyProof.Rows
section
variable {X : Cx}
end
end L2
namespace LW
open PySem L2
section
variable {C CS : Addr}
end
end LW
namespace L2
open PySem PySem.Spec PyProof.Rows
theorem Qkv {X : Cx} {K' : Fg} (h : X.K = K') : OpR X (compareOp .NotIn) (rIn K' true) := h ▸ Qbo
theorem QaZ {α β : Type} (f : α → β) : ∀ (l : List α) (i : Nat), (l.map f).eraseIdx i = (l.eraseIdx i).map f
 | [], _ => rfl
 | _ :: _, 0 => rfl
 | x :: l, i + 1 => congrArg (f x :: ·) (QaZ f l i)
section
variable {X : Cx}
def QmL : V → List V → Hp → VK → Prop := fun x vs H Q => ∃ (l : Addr) (ns : List Int) (n : Int), x = .ref l ∧ vs = [.int n] ∧ H l = some (.lst (ns.map V.int)) ∧ n ∈ ns ∧ Q .non (upd H l (.lst ((ns.erase n).map V.int)))
theorem QkD : MtM X "list.remove" QmL := by
 intro pins s σ H x vs v us Q I rx rv h
 obtain ⟨l, ns, n, rfl, rfl, hH, hn, q⟩ := h
 cases rx
 obtain ⟨u, rfl, ru⟩ := rv.one
 obtain ⟨t, rfl⟩ := ru
 obtain ⟨z, its, c, r, hl, e⟩ := I.lstM hH
 have hlen : ns.length = its.length := by rw [← hl, List.length_map]
 have at_ : ∀ (i : Nat) (a : Int), ns[i]? = some a → ∃ tk, its[i]? = some (.int a tk) := fun i a h => by
  obtain ⟨w', hw, tk, rfl⟩ := r.get (i := i) (x := .int a) (by rw [List.getElem?_map, h]; rfl)
  exact ⟨tk, hw⟩
 have hj : ns.idxOf n < ns.length := List.idxOf_lt_length_of_mem hn
 let eq : Value → Bool := fun y => match y with
  | .int a _ => a == n
  | _ => false
 have he : ∀ y, y ∈ its.toArray → MeetsSeq.EqGives y (.int n t) (eq y) := fun y hy => by
  obtain ⟨i, hi⟩ := List.getElem?_of_mem (List.mem_toArray.mp hy)
  have hlt := (List.getElem?_eq_some_iff.mp hi).1
  obtain ⟨tk, h2⟩ := at_ i ns[i] (List.getElem?_eq_getElem (by omega))
  rw [hi] at h2
  cases h2
  exact MeetsSeq.EqGives.int _ _ _ _
 have val : ∀ (m : Nat) (hm : m < its.toArray.size) (a : Int), ns[m]? = some a → eq its.toArray[m] = (a == n) := fun m hm a ha => by
  obtain ⟨tk, h2⟩ := at_ m a ha
  have : its.toArray[m] = .int a tk := by
   have h3 := (List.getElem?_eq_some_iff.mp h2).2
   simpa using h3
  rw [this]
 refine call_meets F.slot_list_remove ⟨_, e, rfl⟩ F.entry_list_remove (F.args_list_remove_2 _ _)
  (MeetsSeq.list_remove l its.toArray c (.int n t) eq he (ns.idxOf n) (by rw [List.size_toArray]; omega) ?_ ?_ (by rw [List.size_toArray]; omega)) ⟨e, ?_⟩
 ·rw [val _ _ n (by rw [List.getElem?_eq_getElem hj, List.getElem_idxOf hj])]
  simp
 ·intro m hm hlt
  have hm2 : m < ns.length := by omega
  rw [val _ _ ns[m] (List.getElem?_eq_getElem hm2)]
  have := List.not_of_lt_findIdx hlt
  simpa using this
 ·refine ⟨.non, _, I.lset (its' := its.eraseIdx (ns.idxOf n)) hH e ?_ (ys := (ns.erase n).map V.int) ?_ ?_, rfl, q⟩
  ·show its.toArray.eraseIdxIfInBounds _ = (its.eraseIdx _).toArray
   rw [List.eraseIdxIfInBounds_toArray]
  ·have h2 := r.eraseIdx (ns.idxOf n)
   rw [QaZ, ← List.erase_eq_eraseIdx_of_idxOf rfl] at h2
   exact h2
  ·rw [List.length_map]
   have := List.length_erase_le (a := n) (l := ns)
   rw [List.length_map] at z
   omega
end
end L2
namespace LW
open PySem L2
theorem Qle : ∀ {a b : List Int}, a.Pairwise (· < ·) → b.Pairwise (· < ·) → (∀ x, x ∈ a ↔ x ∈ b) → a = b
 | [], [], _, _, _ => rfl
 | [], y :: b, _, _, h => by have := (h y).mpr List.mem_cons_self; cases this
 | x :: a, [], _, _, h => by have := (h x).mp List.mem_cons_self; cases this
 | x :: a, y :: b, h1, h2, h => by
  obtain ⟨p1, q1⟩ := List.pairwise_cons.mp h1
  obtain ⟨p2, q2⟩ := List.pairwise_cons.mp h2
  have e : x = y := by
   rcases List.mem_cons.mp ((h x).mp List.mem_cons_self) with z | z
   ·exact z
   ·rcases List.mem_cons.mp ((h y).mpr List.mem_cons_self) with r | r
    ·exact r.symm
    ·have l1 := p2 x z
     have l2 := p1 y r
     omega
  subst e
  refine congrArg (x :: ·) (Qle q1 q2 fun z => ⟨fun hz => ?_, fun hz => ?_⟩)
  ·rcases List.mem_cons.mp ((h z).mp (List.mem_cons_of_mem _ hz)) with r | r
   ·have := p1 z hz; omega
   ·exact r
  ·rcases List.mem_cons.mp ((h z).mpr (List.mem_cons_of_mem _ hz)) with r | r
   ·have := p2 z hz; omega
   ·exact r
theorem law_ok {S : HS} {n : Nat} (hn : names S = QK 1 n) (hb : ∀ b ∈ S.boxes, BOk n b) (ht : ∀ t ∈ S.slots, TOk n t) (told : ∀ xs ∈ S.told, xs = []) (h : n ≤ 900) : S.Ok := by
 have inn : ∀ t : T, TOk n t → t.In (names S) := fun t ok k e => by
  subst e
  rw [hn, ZG]
  have ok : 1 ≤ k ∧ k ≤ (n : Int) := ok
  omega
 have hl : S.boxes.length = n := by
  have := congrArg List.length hn
  rw [QJ] at this
  simpa [names] using this
 refine ⟨fun b m t mt => inn t ((hb b m).ts t mt), fun b m k => ?_, fun t m => inn t (ht t m), (fun xs m k mk => by rw [told xs m] at mk; cases mk), by omega, fun b m => by have := (hb b m).le; omega⟩
 have := (hb b m).sz
 rw [k] at this
 have e : ZY "pair" (b.row.length : Int) = 2 := by unfold ZY; rw [if_neg (by decide +kernel), if_pos rfl]
 rw [e] at this
 omega
def QaY (hs : List Int) (b : Box) : Bool := match b.row[0]? with
 | some (T.box k) => !decide (k ∈ hs)
 | _ => false
def brk (ns : List Int) (f : List T → List T) (bs : List Box) : List Box := bs.map fun b => if b.name ∈ ns then { b with row := f b.row } else b
def loose (r : List T) : List T := r.set 0 .non
def Qih (r : List T) : List T := (r.set 0 .non).set 1 .non
theorem Qla (f : List T → List T) (bs : List Box) : brk [] f bs = bs := by simp [brk]
theorem QeZ (ns : List Int) (f : List T → List T) (bs : List Box) : (brk ns f bs).map (·.name) = bs.map (·.name) := by
 rw [brk, List.map_map]
 refine List.map_congr_left fun b _ => ?_
 show (if b.name ∈ ns then ({ b with row := f b.row } : Box) else b).name = b.name
 split <;> rfl
theorem Qgy {ns : List Int} {f : List T → List T} {bs : List Box} {i : Nat} {b : Box} (h : bs[i]? = some b) : (brk ns f bs)[i]? = some (if b.name ∈ ns then { b with row := f b.row } else b) := by
 rw [brk, List.getElem?_map, h]; rfl
theorem QdB {bs : List Box} {i j at_ : Nat} {t : T} : (ZH bs i at_ t)[j]? = (bs[j]?).map fun b => if i = j then { b with row := b.row.set at_ t } else b := by
 unfold ZH
 rw [List.getElem?_modify]
 cases bs[j]? <;> rfl
theorem Qlb {bs : List Box} {ns : List Int} {i : Nat} {b : Box} (nd : (bs.map (·.name)).Nodup) (h : bs[i]? = some b) (hn : b.name ∉ ns) : ZH (brk ns loose bs) i 0 .non = brk (ns ++ [b.name]) loose bs := by
 refine List.ext_getElem? fun j => ?_
 rw [QdB]
 cases e : bs[j]? with
 | none => simp [brk, e]
 | some x =>
  rw [Qgy e, Qgy e]
  by_cases ij : i = j
  ·subst ij
   have : x = b := by rw [h] at e; exact (Option.some.inj e).symm
   subst this
   simp [hn, loose]
  ·have hx : x.name ≠ b.name := fun z => ij (QbK nd (x := b.name) (by rw [List.getElem?_map, h]; rfl) (by rw [List.getElem?_map, e]; exact congrArg some z))
   simp [ij, hx]
theorem QlX {bs : List Box} {ns : List Int} {i : Nat} {b : Box} (nd : (bs.map (·.name)).Nodup) (h : bs[i]? = some b) (hn : b.name ∉ ns) : ZH (ZH (brk ns Qih bs) i 0 .non) i 1 .non = brk (ns ++ [b.name]) Qih bs := by
 refine List.ext_getElem? fun j => ?_
 rw [QdB, QdB]
 cases e : bs[j]? with
 | none => simp [brk, e]
 | some x =>
  rw [Qgy e, Qgy e]
  by_cases ij : i = j
  ·subst ij
   have : x = b := by rw [h] at e; exact (Option.some.inj e).symm
   subst this
   simp [hn, Qih]
  ·have hx : x.name ≠ b.name := fun z => ij (QbK nd (x := b.name) (by rw [List.getElem?_map, h]; rfl) (by rw [List.getElem?_map, e]; exact congrArg some z))
   simp [ij, hx]
theorem Qhf {α β : Type} : ∀ (xs : List α) (ys : List β) (i : Nat), (xs.eraseIdx i).zip (ys.eraseIdx i) = (xs.zip ys).eraseIdx i
 | [], ys, i => by simp
 | x :: xs, [], i => by cases i <;> simp
 | x :: xs, y :: ys, 0 => rfl
 | x :: xs, y :: ys, i + 1 => by simp [Qhf xs ys i]
theorem QhG (bs : List Box) (i : Nat) : Qx (bs.eraseIdx i) = (Qx bs).eraseIdx i := by simp [Qx, QaZ]
theorem Qg7 (bs : List Box) (fl : List Addr) (i : Nat) : Qt (bs.eraseIdx i) (fl.eraseIdx i) = (Qt bs fl).eraseIdx i := by simp [Qt, Qhf, QaZ]
theorem QhN {bs : List Box} (nd : (bs.map (·.name)).Nodup) {i : Nat} {b : Box} (h : bs[i]? = some b) : bs.eraseIdx i = bs.filter fun x => !decide (x.name = b.name) := by
 induction bs generalizing i with
 | nil => simp at h
 | cons y ys ih =>
  have nd : (y.name :: ys.map (·.name)).Nodup := nd
  obtain ⟨n1, n2⟩ := List.nodup_cons.mp nd
  cases i with
  | zero =>
   have h : y = b := by simpa using h
   subst h
   have : ys.filter (fun x => !decide (x.name = y.name)) = ys := List.filter_eq_self.mpr fun x hx => by
    have : x.name ≠ y.name := fun e => n1 (by rw [← e]; exact List.mem_map.mpr ⟨x, hx, rfl⟩)
    simp [this]
   simp [this]
  | succ i =>
   have h : ys[i]? = some b := by simpa using h
   have : y.name ≠ b.name := fun e => n1 (by rw [e]; exact List.mem_map.mpr ⟨b, List.mem_of_getElem? h, rfl⟩)
   simp [this, ih n2 h]
section
variable {C : Addr} {H H' : Hp} {p : Addr} {A : HA} {S : HS} {i : Nat} {b : Box}
theorem HouseAt.dropped (h : HouseAt C H p A S) (hi : S.boxes[i]? = some b) (h2 : H' A.kd = some (.dK ((Qx S.boxes).eraseIdx i))) (h3 : H' A.fd = some (.dK ((Qt S.boxes A.fl).eraseIdx i))) (kp : ∀ c, c ≠ A.kd → c ≠ A.fd → H' c = H c) :
  HouseAt C H' p { A with fl := A.fl.eraseIdx i } { S with boxes := S.boxes.eraseIdx i } := by
 have nk : ∀ c o, H c = some o → (∀ kvs, o ≠ .dK kvs) → H' c = H c := fun c o e n => kp c (QI e h.kd (n _)) (QI e h.fd (n _))
 have kl : ∀ c ∈ A.lists, H' c = H c := fun c hc => by
  obtain ⟨vs, q⟩ := h.isL c hc
  exact nk c _ q (by intro kvs z; cases z)
 have tu : Tups H H' := fun c xs e => by rw [nk c _ e (by intro kvs z; cases z)]; exact e
 refine ⟨?_, h.sl.keep tu (kl _ (by simp [HA.lists])), by rw [h2, QhG], by rw [h3, Qg7], QH (fun x a _ ha z => z.keep tu (kl _ (by simp [HA.lists, List.mem_of_mem_eraseIdx ha]))) (QiQ i h.fl), (kl _ (by simp [HA.lists])).trans h.qs,
  QH (fun x a _ ha z => (kl _ (by simp [HA.lists, ha])).trans z) h.ql, (kl _ (by simp [HA.lists])).trans h.td, QH (fun x a _ ha z => (kl _ (by simp [HA.lists, ha])).trans z) h.tl, ?_, h.kf, ?_, fun x hx => h.top x (List.mem_of_mem_eraseIdx hx)⟩
 ·rw [nk p _ h.ob (by intro kvs z; cases z)]; exact h.ob
 ·refine h.nd.sublist ?_
  show List.Sublist (A.sl :: A.qs :: A.td :: (A.fl.eraseIdx i ++ (A.ql ++ A.tl))) (A.sl :: A.qs :: A.td :: (A.fl ++ (A.ql ++ A.tl)))
  exact (((List.eraseIdx_sublist A.fl i).append_right _).cons_cons _).cons_cons _ |>.cons_cons _
 ·show ((S.boxes.eraseIdx i).map (·.name)).Pairwise (· < ·)
  exact h.asc.sublist ((List.eraseIdx_sublist S.boxes i).map _)
end
def Ql9 (C : Addr) : Sp := fun vs H Q _ => ∃ (p : Addr) (A : HA) (S : HS) (i : Nat) (b : Box), vs = [.ref p, .int b.name] ∧ HouseAt C H p A S ∧ S.boxes[i]? = some b ∧ Out C H p A { S with boxes := S.boxes.eraseIdx i } Q .non
def HS.tell (S : HS) (g : Nat) (xs ys : List Int) : HS := { S with queues := S.queues.set g xs, told := S.told.set g ys }
def Ql4 (C : Addr) : Sp := fun vs H Q _ => ∃ (p : Addr) (A : HA) (S : HS) (g : Nat) (xs ys : List Int) (n : Int), vs = [.ref p, .int g, .int n] ∧ HouseAt C H p A S ∧ S.queues[g]? = some xs ∧ S.told[g]? = some ys ∧ n ∈ xs ∧ ys.length ≤ 900 ∧ Out C H p A (S.tell g (xs.erase n) (ys ++ [n])) Q .non
def Qh8 (C : Addr) : Sp := fun vs H Q _ => ∃ (p l : Addr) (A : HA) (S : HS) (i : Nat) (b : Box) (hs : List Int), vs = [.ref p, .int b.name, .ref l] ∧ HouseAt C H p A S ∧ S.boxes[i]? = some b ∧ 0 < b.row.length ∧ H l = some (.lst (hs.map V.int)) ∧ Q (.bl (QaY hs b)) H
def Ze (hs : List Int) (bs : List Box) : List Int := (bs.filter fun b => decide (b.kind = ("weak" : Str)) && QaY hs b).map (·.name)
def ZI (hs : List Int) (bs : List Box) : List Int := (bs.filter fun b => decide (b.name ∈ hs) && (decide (b.kind = ("pair" : Str)) && QaY hs b)).map (·.name)
def Zg (hs : List Int) (bs : List Box) : List Int := (bs.filter fun b => !decide (b.name ∈ hs)).map (·.name)
def OutL (C : Addr) (H : Hp) (p : Addr) (A : HA) (S' : HS) (ns : List Int) (Q : V → Hp → Prop) : Prop :=
 ∀ A' H' r, Upto C H p A H' A' S' → H r = none → r ∉ A'.foot p → H' r = some (.lst (ns.map V.int)) → Q (.ref r) H'
def Qe9 (C : Addr) : Sp := fun vs H Q _ => ∃ (p l : Addr) (A : HA) (S : HS) (hs : List Int), vs = [.ref p, .ref l] ∧ HouseAt C H p A S ∧ H l = some (.lst (hs.map V.int)) ∧ l ∉ A.foot p ∧ S.boxes.length < 64 ∧ (∀ b ∈ S.boxes, b.kind = "weak" → 0 < b.row.length) ∧
 OutL C H p A { S with boxes := brk (Ze hs S.boxes) loose S.boxes } (Ze hs S.boxes) Q
def Qew (C : Addr) : Sp := fun vs H Q _ => ∃ (p l : Addr) (A : HA) (S : HS) (hs : List Int), vs = [.ref p, .ref l] ∧ HouseAt C H p A S ∧ H l = some (.lst (hs.map V.int)) ∧ l ∉ A.foot p ∧ S.boxes.length < 64 ∧ (∀ b ∈ S.boxes, b.kind = "pair" → b.row.length = 2) ∧
 hs.Pairwise (· < ·) ∧ (∀ n ∈ hs, n ∈ names S) ∧ OutL C H p A { S with boxes := brk (ZI hs S.boxes) Qih S.boxes } (ZI hs S.boxes) Q
def Qeu (C : Addr) : Sp := fun vs H Q _ => ∃ (p l : Addr) (A : HA) (S : HS) (hs : List Int), vs = [.ref p, .ref l] ∧ HouseAt C H p A S ∧ H l = some (.lst (hs.map V.int)) ∧ l ∉ A.foot p ∧ S.boxes.length < 64 ∧
 OutL C H p A { S with boxes := S.boxes.filter fun b => decide (b.name ∈ hs) } (Zg hs S.boxes) Q
def QmB (hs : List Int) (S : HS) (g : Nat) : HS := { S with queues := S.queues.modify g (·.filter fun n => decide (n ∈ hs)), told := S.told.modify g (· ++ (S.queues.getD g []).filter fun n => !decide (n ∈ hs)) }
def QaR (hs : List Int) (S : HS) : Nat → HS
 | 0 => S
 | i + 1 => QmB hs (QaR hs S i) i
def Z0 (hs : List Int) (S : HS) : Nat → List (Nat × Int)
 | 0 => []
 | i + 1 => Z0 hs S i ++ ((S.queues.getD i []).filter fun n => !decide (n ∈ hs)).map fun n => (i, n)
theorem Qe4 (hs : List Int) (S : HS) : ∀ i g, i ≤ g → (QaR hs S i).queues[g]? = S.queues[g]? ∧ (QaR hs S i).told[g]? = S.told[g]?
 | 0, _, _ => ⟨rfl, rfl⟩
 | i + 1, g, h => by
  obtain ⟨a, b⟩ := Qe4 hs S i g (by omega)
  have ne : ¬ i = g := by omega
  constructor
  ·show ((QaR hs S i).queues.modify i _)[g]? = _
   rw [List.getElem?_modify, a]
   cases S.queues[g]? <;> simp [ne]
  ·show ((QaR hs S i).told.modify i _)[g]? = _
   rw [List.getElem?_modify, b]
   cases S.told[g]? <;> simp [ne]
def Qhd (H : Hp) (r : Addr) (ws : List (Nat × Int)) (as : List Addr) : Prop := H r = some (.lst (as.map V.ref)) ∧ Paired (fun (x : Nat × Int) a => H a = some (.tup [.int (x.1 : Int), .int x.2])) ws as
structure HS.OkQ (S : HS) : Prop where
 q4 : S.queues.length = 4
 t4 : S.told.length = 4
 un : ∀ xs ∈ S.queues, xs.Nodup
 nm : ∀ xs ∈ S.queues, ∀ n ∈ xs, n ∈ names S
 few : ∀ (g : Nat) (xs ys : List Int), S.queues[g]? = some xs → S.told[g]? = some ys → ys.length + xs.length ≤ 900
def Qes (C : Addr) : Sp := fun vs H Q _ => ∃ (p l : Addr) (A : HA) (S : HS) (hs : List Int), vs = [.ref p, .ref l] ∧ HouseAt C H p A S ∧ H l = some (.lst (hs.map V.int)) ∧ l ∉ A.foot p ∧ S.OkQ ∧
 ∀ A' H' r as, Upto C H p A H' A' (QaR hs S 4) → H r = none → r ∉ A'.foot p → Qhd H' r (Z0 hs S 4) as → Q (.ref r) H'
def HS.loosened (S : HS) (hA : List Int) : HS := QaR hA { S with boxes := brk (Ze hA S.boxes) loose S.boxes } 4
def HS.parted (S : HS) (hB : List Int) : HS := { S with boxes := (brk (ZI hB S.boxes) Qih S.boxes).filter fun b => decide (b.name ∈ hB) }
structure Swept (S : HS) (b0 : Option Int) (hA hB : List Int) (S' : HS) : Prop where
 a1 : hA.Pairwise (· < ·)
 a2 : ∀ n, n ∈ hA ↔ QfW S b0 n
 b1 : hB.Pairwise (· < ·)
 b2 : ∀ n, n ∈ hB ↔ QfW (S.loosened hA) b0 n
 e : S' = (S.loosened hA).parted hB
structure ToldAt (H : Hp) (v : Addr) (gone weak pairs : List Int) (ws : List (Nat × Int)) (l1 l2 l3 l4 : Addr) (as : List Addr) : Prop where
 tu : H v = some (.tup [.ref l1, .ref l2, .ref l3, .ref l4])
 g : H l1 = some (.lst (gone.map V.int))
 w : H l2 = some (.lst (weak.map V.int))
 p : H l3 = some (.lst (pairs.map V.int))
 ws : Qhd H l4 ws as
structure HS.OkW (S : HS) : Prop where
 ok : S.Ok
 q : S.OkQ
 few : S.boxes.length < 64
 weak : ∀ b ∈ S.boxes, b.kind = "weak" → b.row.length = 1
 kd : ∀ b ∈ S.boxes, b.kind = "plain" ∨ b.kind = "weak" ∨ b.kind = "pair"
def Qj0 (C : Addr) : Sp := fun vs H Q _ => ∃ (p : Addr) (A : HA) (S : HS) (b0 : Option Int), vs = [.ref p, besV b0] ∧ HouseAt C H p A S ∧ S.OkW ∧ (∀ n, b0 = some n → n ∈ names S) ∧
 ∀ A' H' hA hB S' v l1 l2 l3 l4 as, Swept S b0 hA hB S' → Upto C H p A H' A' S' → ToldAt H' v (Zg hB (S.loosened hA).boxes) (Ze hA S.boxes) (ZI hB (S.loosened hA).boxes) (Z0 hA S 4) l1 l2 l3 l4 as →
  Grown (A.foot p) [l1, l2, l3, l4] H → (∀ b ∈ [l1, l2, l3, l4], b ∉ A'.foot p) → [l1, l2, l3, l4].Nodup → Q (.ref v) H'
section
variable {C : Addr} {H H1 : Hp} {p a : Addr} {A : HA} {S S' : HS} {vs : List V} {o : HO}
theorem HouseAt.uptoOne (h : HouseAt C H p A S) (hm : a ∈ A.lists) (hw : H a = some (.lst vs)) (h' : HouseAt C (upd H a o) p A S') : Upto C H p A (upd H a o) A S' :=
 ⟨h', fun b o' q n => by rw [Qh (fun e => n (by rw [e]; simp [HA.foot, hm]))]; exact q, Tups.upd hw (by intro xs z; cases z), Grown.refl _ _⟩
theorem Upto.trans {H2 : Hp} {A1 A2 : HA} {S1 S2 : HS} (u : Upto C H p A H1 A1 S1) (v : Upto C H1 p A1 H2 A2 S2) : Upto C H p A H2 A2 S2 := u.step v.hh v.fr v.tu v.gr
end
theorem QbE {α : Type} {l : List α} {i : Nat} {x : α} (h : l[i]? = some x) : l.take (i + 1) = l.take i ++ [x] := by rw [List.take_add_one, h]; rfl
theorem QY {α : Type} {l : List α} {i : Nat} {x : α} (p : α → Bool) (h : l[i]? = some x) : (l.take (i + 1)).filter p = (l.take i).filter p ++ if p x = true then [x] else [] := by
 rw [QbE h, List.filter_append]
 congr 1
 by_cases e : p x = true <;> simp [e]
theorem Qmm {S : HS} {i : Nat} {x : V} (h : ((names S).map V.int)[i]? = some x) : ∃ b, S.boxes[i]? = some b ∧ x = .int b.name := by
 rw [List.getElem?_map, names, List.getElem?_map] at h
 cases e : S.boxes[i]? with
 | none => rw [e] at h; cases h
 | some b => rw [e] at h; exact ⟨b, rfl, (Option.some.inj h).symm⟩
theorem boxAt {bs : List Box} {i : Nat} {x : V} (h : ((bs.map (·.name)).map V.int)[i]? = some x) : ∃ b, bs[i]? = some b ∧ x = .int b.name := by
 rw [List.getElem?_map, List.getElem?_map] at h
 cases e : bs[i]? with
 | none => rw [e] at h; cases h
 | some b => rw [e] at h; exact ⟨b, rfl, (Option.some.inj h).symm⟩
theorem Qit {l : List Int} {i : Nat} {y : V} (hy : (l.map V.int)[i]? = some y) : ∃ n, l[i]? = some n ∧ y = .int n := by
 rw [List.getElem?_map] at hy
 cases e : l[i]? with
 | none => rw [e] at hy; cases hy
 | some h => rw [e] at hy; exact ⟨h, rfl, (Option.some.inj hy).symm⟩
theorem Qh6 {bs : List Box} {f : Box → Bool} {i : Nat} {n : Int} (nd : (bs.map (·.name)).Nodup) (h : ((bs.filter f).map (·.name))[i]? = some n) : ∃ (k : Nat) (b : Box), bs[k]? = some b ∧ b.name = n ∧ f b = true ∧ n ∉ ((bs.filter f).map (·.name)).take i := by
 have h' := h
 rw [List.getElem?_map] at h
 cases e : (bs.filter f)[i]? with
 | none => rw [e] at h; cases h
 | some b =>
  rw [e] at h
  have hn : b.name = n := Option.some.inj h
  obtain ⟨m1, m2⟩ := List.mem_filter.mp (List.mem_of_getElem? e)
  obtain ⟨k, hk⟩ := List.getElem?_of_mem m1
  refine ⟨k, b, hk, hn, m2, fun z => ?_⟩
  obtain ⟨j, hj⟩ := List.getElem?_of_mem z
  have hlt := (List.getElem?_eq_some_iff.mp hj).1
  have hji : j < i := by simp at hlt; omega
  rw [List.getElem?_take_of_lt hji] at hj
  have nd' : ((bs.filter f).map (·.name)).Nodup := nd.sublist (List.filter_sublist.map _)
  have := QbK nd' hj h'
  omega
theorem Qbq (hs : List Int) (bs : List Box) : Zg hs bs = (bs.map (·.name)).filter fun n => !decide (n ∈ hs) := by
 rw [Zg, List.filter_map]; rfl
theorem Qjw (hs ns : List Int) (f : List T → List T) (bs : List Box) : Zg hs (brk ns f bs) = Zg hs bs := by rw [Qbq, Qbq, QeZ]
theorem QkL {hs : List Int} {bs : List Box} : (bs.filter fun b => !decide (b.name ∈ Zg hs bs)) = bs.filter fun b => decide (b.name ∈ hs) := by
 refine List.filter_congr fun b hb => ?_
 rw [Qbq]
 have hm : b.name ∈ bs.map (·.name) := List.mem_map.mpr ⟨b, hb, rfl⟩
 by_cases e : b.name ∈ hs <;> simp [List.mem_filter, e]
 exact ⟨b, hb, rfl⟩
theorem Qln {xs : List Int} {i : Nat} {n : Int} (nd : xs.Nodup) (h : xs[i]? = some n) (f : Int → Bool) : n ∈ (xs.take i).filter f ++ xs.drop i ∧ ((xs.take i).filter f ++ xs.drop i).erase n = (xs.take i).filter f ++ xs.drop (i + 1) := by
 have hlt := (List.getElem?_eq_some_iff.mp h).1
 have hd : xs.drop i = n :: xs.drop (i + 1) := by rw [List.drop_eq_getElem_cons hlt]; congr 1; exact (List.getElem?_eq_some_iff.mp h).2
 have nt : n ∉ (xs.take i).filter f := fun z => by
  have z := (List.mem_filter.mp z).1
  obtain ⟨j, hj⟩ := List.getElem?_of_mem z
  have hl2 := (List.getElem?_eq_some_iff.mp hj).1
  have hji : j < i := by simp at hl2; omega
  rw [List.getElem?_take_of_lt hji] at hj
  have := QbK nd hj h
  omega
 rw [hd]
 refine ⟨by simp, ?_⟩
 rw [List.erase_append_right _ nt, List.erase_cons_head]
theorem Qm4 {xs : List Int} {i : Nat} {n : Int} (h : xs[i]? = some n) : xs.drop i = n :: xs.drop (i + 1) := by
 have hlt := (List.getElem?_eq_some_iff.mp h).1
 rw [List.drop_eq_getElem_cons hlt]; congr 1; exact (List.getElem?_eq_some_iff.mp h).2
theorem Qma {α : Type} {l : List α} {i : Nat} {x : α} (h : l[i]? = some x) : l.set i x = l := by
 obtain ⟨hl, he⟩ := List.getElem?_eq_some_iff.mp h
 rw [← he]
 exact List.set_getElem_self hl
theorem Qgn {α : Type} {l : List α} {i : Nat} {x : α} {f : α → α} (h : l[i]? = some x) : l.modify i f = l.set i (f x) := by
 refine List.ext_getElem? fun j => ?_
 rw [List.getElem?_modify, List.getElem?_set]
 by_cases e : i = j
 ·subst e
  have hl := (List.getElem?_eq_some_iff.mp h).1
  rw [h]; simp [hl]
 ·simp [e]
theorem Qlo {hs : List Int} {S : HS} {g : Nat} {xs ys : List Int} (hq : S.queues[g]? = some xs) (ht : S.told[g]? = some ys) : QmB hs S g = S.tell g (xs.filter fun n => decide (n ∈ hs)) (ys ++ xs.filter fun n => !decide (n ∈ hs)) := by
 unfold QmB HS.tell
 rw [Qgn hq, Qgn ht]
 have : S.queues.getD g [] = xs := by rw [List.getD_eq_getElem?_getD, hq]; rfl
 rw [this]
theorem Qhg {hs : List Int} {S : HS} {g : Nat} {xs : List Int} (hq : S.queues[g]? = some xs) : Z0 hs S (g + 1) = Z0 hs S g ++ (xs.filter fun n => !decide (n ∈ hs)).map fun n => (g, n) := by
 have : S.queues.getD g [] = xs := by rw [List.getD_eq_getElem?_getD, hq]; rfl
 show Z0 hs S g ++ _ = _
 rw [this]
section
variable {C CS : Addr}
theorem Qfq (F : Fun K "tell" "House.tell" Qbr f fd) (T : TX K mg C)  :
  FnOk P w K mg base CX0 (n + 1) f fd ["self", "guard", "name"] (Ql4 C) := by
 refine F.ok Qfd (by rintro _ _ _ _ ⟨_, _, _, _, _, _, _, rfl, _⟩; rfl) fun _ _ _ s H vs Q E hr h => ?_
 obtain ⟨p, A', S, g, xs, ys, n, rfl, hh, hq, ht, hn, hl, k⟩ := h
 have hu := Qu hr
 refine ⟨_, (Qb (Qk (Qfp PySem.F.plainAttrs_list PySem.F.slot_list_remove PySem.F.type_list_remove QkD (Zf QN (QB (pv 0) rfl) (pv 1) (fun _ _ => rfl)) (Qa (pv 2) Qc)))
  (Qe (Qk (Qfp PySem.F.plainAttrs_list PySem.F.slot_list_append PySem.F.type_list_append QaG (Zf QN (QB (pv 0) rfl) (pv 1) (fun _ _ => rfl)) (Qa (pv 2) Qc))))), ?_⟩
 obtain ⟨a, ha, hi⟩ := Zt hh.ql hq
 have hix : atI (A'.ql.map V.ref) (g : Int) = some (.ref a) := QZ (by rw [List.getElem?_map, ha]; rfl)
 refine ⟨_, rfl, p, C, A'.dx, _, _, rfl, hh.ob, T.cl, T.n_queues, QdY, _, rfl, A'.qs, _, g, .ref a, rfl, rfl, SqL.of hh.qs, hix, .inl ⟨rfl, _, SqL.of hi⟩, _, rfl, a, xs, n, rfl, rfl, hi, hn, ?_⟩
 have h1 := hh.setQueue (ms := xs.erase n) ha hi
 have u1 := hh.uptoOne (by simp [HA.lists, List.mem_of_getElem? ha]) hi h1
 obtain ⟨b, hb, hbi⟩ := Zt h1.tl ht
 have hix2 : atI (A'.tl.map V.ref) (g : Int) = some (.ref b) := QZ (by rw [List.getElem?_map, hb]; rfl)
 refine ⟨_, rfl, p, C, A'.dx, _, _, rfl, h1.ob, T.cl, T.n_told, Qg5, _, rfl, A'.td, _, g, .ref b, rfl, rfl, SqL.of h1.td, hix2, .inl ⟨rfl, _, SqL.of hbi⟩, _, rfl, b, _, _, rfl, rfl, hbi, by rw [List.length_map]; exact QO (by omega), ?_⟩
 have e : ys.map V.int ++ [V.int n] = (ys ++ [n]).map V.int := by simp
 rw [e]
 have h2 := h1.setTold (ms := ys ++ [n]) hb hbi
 exact (u1.trans (h1.uptoOne (by simp [HA.lists, List.mem_of_getElem? hb]) hbi h2)).out k
theorem Qfx (F : Fun K "drop" "House.drop" Qbv f fd) (T : TX K mg C)  :
  FnOk P w K mg base CX0 (n + 1) f fd ["self", "name"] (Ql9 C) := by
 refine F.ok Qfi (by rintro _ _ _ _ ⟨_, _, _, _, _, rfl, _⟩; rfl) fun _ _ _ s H vs Q E hr h => ?_
 obtain ⟨p, A', S, i, b, rfl, hh, hi, k⟩ := h
 have hu := Qu hr
 refine ⟨_, (Qb (Qk (QiU (QB (pv 0) rfl) (pv 1) ⟨rfl, rfl, rfl, rfl⟩))
  (Qe (Qk (QiU (QB (pv 0) rfl) (pv 1) ⟨rfl, rfl, rfl, rfl⟩)))), ?_⟩
 have pk : p ≠ A'.kd := QI hh.ob hh.kd (by intro z; cases z)
 have pf : p ≠ A'.fd := QI hh.ob hh.fd (by intro z; cases z)
 obtain ⟨a, ws, ha, hw, htw, hv⟩ := hh.rowAt hi
 have kk : (Qx S.boxes)[i]? = some ((Sum.inl b.name : Key), V.str b.kind) := by rw [Qx, List.getElem?_map, hi]; rfl
 have kf : (Qt S.boxes A'.fl)[i]? = some ((Sum.inl b.name : Key), V.ref a) := by
  rw [Qt, List.getElem?_map, List.getElem?_zip_eq_some.mpr (show S.boxes[i]? = some (b, a).1 ∧ A'.fl[i]? = some (b, a).2 from ⟨hi, ha⟩)]; rfl
 refine ⟨_, rfl, p, C, A'.dx, _, _, rfl, hh.ob, T.cl, T.n_kinds, Qb6, A'.kd, rfl, .inl ⟨_, Rd.of hh.kd⟩, _, rfl, _, Sum.inl b.name, _, hh.kd, rfl, hh.kindAt hi, ?_⟩
 rw [Qi4 hh.ndK kk]
 have ob1 : (upd H A'.kd (.dK ((Qx S.boxes).eraseIdx i))) p = some (.ins C A'.dx (QbL A' S)) := by rw [Qh pk]; exact hh.ob
 have fd1 : (upd H A'.kd (.dK ((Qx S.boxes).eraseIdx i))) A'.fd = some (.dK (Qt S.boxes A'.fl)) := by rw [Qh hh.kf.symm]; exact hh.fd
 refine ⟨_, rfl, p, C, A'.dx, _, _, rfl, ob1, T.cl, T.n_fields, Qbe, A'.fd, rfl, .inl ⟨_, Rd.of fd1⟩, _, rfl, _, Sum.inl b.name, _, fd1, rfl, hv, ?_⟩
 rw [Qi4 hh.ndF kf]
 have kp : ∀ c, c ≠ A'.kd → c ≠ A'.fd → (upd (upd H A'.kd (.dK ((Qx S.boxes).eraseIdx i))) A'.fd (.dK ((Qt S.boxes A'.fl).eraseIdx i))) c = H c := fun c h1 h2 => by rw [Qh h2, Qh h1]
 refine k _ _ (hh.dropped hi (by rw [Qh hh.kf, Qd]) Qd kp) (fun c o e n => ?_) (fun c xs e => ?_) (fun c hc => ?_)
 ·rw [kp c (fun e => n (by rw [e]; simp [HA.foot])) (fun e => n (by rw [e]; simp [HA.foot]))]; exact e
 ·rw [kp c (QI e hh.kd (by intro z; cases z)) (QI e hh.fd (by intro z; cases z))]; exact e
 ·left
  simp only [HA.foot, HA.lists, List.mem_cons, List.mem_append] at hc ⊢
  rcases hc with h | h | h | h | h | h | h | h
  ·exact .inl h
  ·exact .inr (.inl h)
  ·exact .inr (.inr (.inl h))
  ·exact .inr (.inr (.inr (.inl h)))
  ·exact .inr (.inr (.inr (.inr (.inl h))))
  ·exact .inr (.inr (.inr (.inr (.inr (.inl h)))))
  ·exact .inr (.inr (.inr (.inr (.inr (.inr (.inl (List.mem_of_mem_eraseIdx h)))))))
  ·exact .inr (.inr (.inr (.inr (.inr (.inr (.inr h))))))
theorem Qc5 (F : Fun K "leads_to_unheld" "leads_to_unheld" ZV f fd) (T : TX K mg C) (D1_ : DefOk P w K mg base n "box_name" ["thing"] (Zv) [[]])
  (M2_ : MethOk P w K mg base C n "field" ["self", "name", "at"] (Qcj C) [[]]) :
  FnOk P w K mg base CX0 (n + 1) f fd ["house", "name", "held"] (Qh8 C) := by
 refine F.ok QaT (by rintro _ _ _ _ ⟨_, _, _, _, _, _, _, rfl, _⟩; rfl) fun _ _ _ s H vs Q E hr h => ?_
 obtain ⟨p, l, A', S, i, b, hs, rfl, hh, hi, hpos, hl, k⟩ := h
 have hu := Qu hr
 refine ⟨_, (Qb (Qw (i := 3) QaT.nd rfl (Or.inl rfl) (qc D1_ hr (Qa (qm M2_ (pv 0) T.cl hr (Qa (pv 1) (Qa Qi Qc))) Qc)))
  (Qe (Qq (QdK (Qmf (Qbz (pv 3))) (Qfo (Qee Qbo (pv 3) (pv 2) rfl)))))), ?_⟩
 obtain ⟨t, ht⟩ : ∃ t, b.row[0]? = some t := ⟨b.row[0], List.getElem?_eq_getElem hpos⟩
 refine ⟨_, rfl, p, A'.dx, _, rfl, hh.ob, Qj, _, rfl, p, A', S, i, b, 0, t, rfl, hh, hi, ht, fun v tv => ?_⟩
 refine ⟨v, t, rfl, tv, ?_⟩
 unfold QaY at k
 rw [ht] at k
 cases t with
 | non => exact ⟨_, rfl, _, rfl, Qbg k⟩
 | num m => exact ⟨_, rfl, _, rfl, Qbg k⟩
 | box m =>
  refine ⟨_, rfl, _, rfl, QaK ⟨_, rfl, _, rfl, l, _, rfl, .inl (SqL.of hl), rfl, QcJ hs, ?_⟩⟩
  show Q (.bl (!inV (.int m) (hs.map V.int))) H
  rw [QdX]
  exact k
theorem Qeq : Qz (Qg Za) ["house", "held", "weak", "broken", "name"] (QD ((QaJ (QeB (Qr Za) 0)))) "name" ["house"] [0] :=
 bsk
theorem Qep : Qz (Qg Za) ["house", "held", "weak", "broken", "name"] (QD ((QaJ (QeB (Qr Za) 1)))) "name" ["house", "held"] [0, 1] :=
 bsk
theorem QfC (F : Fun K "break_weak" "break_weak" Za f fd) (T : TX K mg C) (M1_ : MethOk P w K mg base C n "names" ["self"] (Qea C) [[]])
  (M2_ : MethOk P w K mg base C n "kind" ["self", "name"] (Qe6 C) [[]])
  (D3_ : DefOk P w K mg base n "leads_to_unheld" ["house", "name", "held"] (Qh8 C) [[]])
  (M4_ : MethOk P w K mg base C n "put" ["self", "name", "at", "thing"] (Qlq C) [[]]) :
  FnOk P w K mg base CX0 (n + 1) f fd ["house", "held"] (Qe9 C) := by
 refine F.ok Z4 (by rintro _ _ _ _ ⟨_, _, _, _, _, rfl, _⟩; rfl) fun _ _ _ s H vs Q E hr h => ?_
 obtain ⟨p, l, A', S, hs, rfl, hh, hl, hout, h64, hwk, k⟩ := h
 have hu := Qu hr
 refine ⟨_, (Qb (Zo (i := 2) Qeq rfl Z4.nd rfl (Or.inl rfl) (QQ (qm0 M1_ (pv 0) T.cl hr)) (fun _ _ _ _ => (QcT (Qp ZC (qm M2_ (pv 1) T.cl hr (Qa (pv 0) Qc)) Qab (Qv _)))) (fun _ _ _ _ => (pv 0)))
  (Qb (Zo (i := 3) Qep rfl Z4.nd rfl (Or.inl rfl) (QQ (pv 2)) (fun _ _ _ _ => (QcT (QaD (qc D3_ hr (Qa (pv 1) (Qa (pv 0) (Qa (pv 2) Qc))))))) (fun _ _ _ _ => (pv 0)))
  (Qb (Q7 PassesOwn.never rfl (QQ (pv 3)) (QR (i := 4) Z4.nd rfl (Or.inl rfl))
  (Qe (Qk (qm M4_ (pv 0) T.cl hr (Qa (pv 4) (Qa Qi (Qa Qdc Qc)))))))
  (Qe (Qq (pv 3)))))), ?_⟩
 refine ⟨_, rfl, p, A'.dx, _, rfl, hh.ob, Qj, p, A', S, rfl, hh, h64, fun l0 hl0 => ⟨l0, rfl, ⟨_, SqL.of Qd⟩, ?_⟩⟩
 have hh1 := hh.new (o := .lst ((names S).map V.int)) hl0
 have s1 : Same H (upd H l0 (.lst ((names S).map V.int))) := Same.new hl0
 have n1 : (upd H l0 (.lst ((names S).map V.int))) l0 = some (.lst ((names S).map V.int)) := Qd
 generalize upd H l0 (.lst ((names S).map V.int)) = H1 at hh1 s1 n1 ⊢
 have nl : (names S).length < 64 := by simpa [names] using h64
 refine ZE (xs := (names S).map V.int) (fun i ys H' => H' = H1 ∧ ys = (((S.boxes.take i).filter fun b => decide (b.kind = ("weak" : Str))).map (·.name)).map V.int) ⟨rfl, rfl⟩ ?_ (ZO (by simp; omega)) (fun i ys H' _ z => by rw [z.1]; exact SqL.of n1) ?_ ?_
 ·rintro i ys H' ⟨_, rfl⟩
  rw [List.length_map, List.length_map]
  exact Nat.le_trans (List.length_filter_le _ _) (by rw [List.length_take]; omega)
 ·rintro i x ys H' hx ⟨rfl, rfl⟩
  obtain ⟨b, hb, rfl⟩ := Qmm hx
  refine ⟨_, rfl, p, A'.dx, _, rfl, hh1.ob, Qj, _, rfl, p, A', S, i, b, rfl, hh1, hb, rfl, _, rfl, ?_⟩
  rw [QY _ hb]
  by_cases e : b.kind = "weak"
  ·rw [decide_eq_true (show V.str b.kind = V.str "weak" by rw [e])]
   refine QaK ⟨_, rfl, rfl, ?_⟩
   simp [e]
  ·rw [decide_eq_false (show ¬ V.str b.kind = V.str "weak" from fun z => e (V.str.inj z))]
   refine Qbg ⟨rfl, ?_⟩
   simp [e]
 rintro ys H' ⟨rfl, rfl⟩ l1 hl1
 rw [List.length_map, show (names S).length = S.boxes.length by simp [names], List.take_length]
 generalize hws : (S.boxes.filter fun b => decide (b.kind = ("weak" : Str))) = wsb
 have n2 : (upd H' l1 (.lst ((wsb.map (·.name)).map V.int))) l1 = some (.lst ((wsb.map (·.name)).map V.int)) := Qd
 have s2 := s1.trans (Same.new (o := .lst ((wsb.map (·.name)).map V.int)) hl1)
 generalize upd H' l1 (.lst ((wsb.map (·.name)).map V.int)) = H2 at n2 s2 ⊢
 have hh2 := hh.same s2
 have wl : wsb.length < 64 := by rw [← hws]; exact Nat.lt_of_le_of_lt (List.length_filter_le _ _) h64
 refine ⟨_, rfl, l1, rfl, ⟨_, SqL.of n2⟩, ?_⟩
 refine ZE (xs := (wsb.map (·.name)).map V.int) (fun i ys H' => H' = H2 ∧ ys = (((wsb.take i).filter (QaY hs)).map (·.name)).map V.int) ⟨rfl, rfl⟩ ?_ (ZO (by simp; omega)) (fun i ys H' _ z => by rw [z.1]; exact SqL.of n2) ?_ ?_
 ·rintro i ys H' ⟨_, rfl⟩
  rw [List.length_map, List.length_map]
  exact Nat.le_trans (List.length_filter_le _ _) (by rw [List.length_take]; omega)
 ·rintro i x ys H' hx ⟨rfl, rfl⟩
  obtain ⟨b, hb, rfl⟩ := boxAt hx
  have hm := List.mem_of_getElem? hb
  rw [← hws] at hm
  obtain ⟨m1, m2⟩ := List.mem_filter.mp hm
  obtain ⟨kk, hk⟩ := List.getElem?_of_mem m1
  refine ⟨_, rfl, _, rfl, _, rfl, p, l, A', S, kk, b, hs, rfl, hh2, hk, hwk b m1 (of_decide_eq_true m2), s2 _ _ hl, _, rfl, ?_⟩
  rw [QY _ hb]
  cases e : QaY hs b with
  | true =>
   refine QaK ⟨_, rfl, rfl, ?_⟩
   simp [e]
  | false =>
   refine Qbg ⟨rfl, ?_⟩
   simp [e]
 rintro ys H' ⟨rfl, rfl⟩ r hr3
 rw [List.length_map, List.length_map, List.take_length]
 have ew : (wsb.filter (QaY hs)).map (·.name) = Ze hs S.boxes := by
  rw [Ze, ← hws, List.filter_filter]
  congr 1
  exact List.filter_congr fun b _ => Bool.and_comm _ _
 rw [ew]
 have n3 : (upd H' r (.lst ((Ze hs S.boxes).map V.int))) r = some (.lst ((Ze hs S.boxes).map V.int)) := Qd
 have nr : H r = none := s2.free hr3
 have u0 : Upto C H p A' (upd H' r (.lst ((Ze hs S.boxes).map V.int))) A' S := (Upto.refl hh).same (s2.trans (Same.new hr3))
 have ro : r ∉ A'.foot p := hh.out nr
 generalize upd H' r (.lst ((Ze hs S.boxes).map V.int)) = H3 at n3 u0 ⊢
 refine ⟨_, rfl, r, rfl, ⟨_, SqL.of n3⟩, ?_⟩
 refine ZS (K := K) (xs := (Ze hs S.boxes).map V.int) (fun i σ H4 => ∃ v_weak v_name A4, σ = [some (.ref p), some (.ref l), v_weak, some (.ref r), v_name] ∧ Upto C H p A' H4 A4 { S with boxes := brk ((Ze hs S.boxes).take i) loose S.boxes } ∧ r ∉ A4.foot p ∧ H4 r = some (.lst ((Ze hs S.boxes).map V.int))) ?_ ?_ ?_ ?_
 ·refine ⟨_, _, A', rfl, ?_, ro, n3⟩
  rw [List.take_zero, Qla]
  exact u0
 ·rintro i σ H4 _ ⟨_, _, A4, rfl, _, _, h4⟩
  exact SqL.of h4
 ·rintro i y σ H4 hy ⟨v1, v2, A4, rfl, u4, o4, h4⟩
  obtain ⟨n, hn, rfl⟩ := Qit hy
  obtain ⟨kk, b, hk, hbn, hf, hnot⟩ := Qh6 hh.nm hn
  have hnot : n ∉ (Ze hs S.boxes).take i := hnot
  have hwb : b.kind = "weak" ∧ QaY hs b = true := by simpa using hf
  subst hbn
  have hk4 : (brk ((Ze hs S.boxes).take i) loose S.boxes)[kk]? = some b := by rw [Qgy hk, if_neg hnot]
  refine ⟨_, rfl, p, A4.dx, _, rfl, u4.hh.ob, Qj, _, rfl, p, A4, _, kk, b, 0, .non, .non, rfl, u4.hh, hk4, hwk b (List.mem_of_getElem? hk) hwb.1, rfl, (fun n' e => by cases e), fun A5 H5 hh5 fr5 tu5 gr5 => ?_⟩
  have e5 : HS.put { S with boxes := brk ((Ze hs S.boxes).take i) loose S.boxes } kk 0 .non = { S with boxes := brk ((Ze hs S.boxes).take (i + 1)) loose S.boxes } := by
   show HS.mk _ _ _ (ZH (brk ((Ze hs S.boxes).take i) loose S.boxes) _ _ _) _ _ = _
   rw [Qlb hh.nm hk hnot, QbE hn]
  rw [e5] at hh5
  exact ⟨_, _, A5, rfl, u4.step hh5 fr5 tu5 gr5, gr5.out h4 o4, fr5 _ _ h4 o4⟩
 ·rintro σ H4 ⟨v1, v2, A4, rfl, u4, o4, h4⟩
  rw [List.length_map, List.take_length] at u4
  exact ⟨_, rfl, k A4 H4 r u4 nr o4 h4⟩
end
section
variable {C CS : Addr}
theorem Qd2 : Qz (Qg ZA) ["house", "held", "gone", "name"] (QD ((QaJ (QeB (Qr ZA) 0)))) "name" ["held"] [1] :=
 bsk
theorem QeT (F : Fun K "drop_unheld" "drop_unheld" ZA f fd) (T : TX K mg C) (M1_ : MethOk P w K mg base C n "names" ["self"] (Qea C) [[]])
  (M2_ : MethOk P w K mg base C n "drop" ["self", "name"] (Ql9 C) [[]]) :
  FnOk P w K mg base CX0 (n + 1) f fd ["house", "held"] (Qeu C) := by
 refine F.ok QaP (by rintro _ _ _ _ ⟨_, _, _, _, _, rfl, _⟩; rfl) fun _ _ _ s H vs Q E hr h => ?_
 obtain ⟨p, l, A', S, hs, rfl, hh, hl, hout, h64, k⟩ := h
 have hu := Qu hr
 refine ⟨_, (Qb (Zo (i := 2) Qd2 rfl QaP.nd rfl (Or.inl rfl) (QQ (qm0 M1_ (pv 0) T.cl hr)) (fun _ _ _ _ => (QcT (Qp (Qkv (K' := K) rfl) (pv 0) (pv 1) rfl))) (fun _ _ _ _ => (pv 0)))
  (Qb (Q7 PassesOwn.never rfl (QQ (pv 2)) (QR (i := 3) QaP.nd rfl (Or.inl rfl))
  (Qe (Qk (qm M2_ (pv 0) T.cl hr (Qa (pv 3) Qc)))))
  (Qe (Qq (pv 2))))), ?_⟩
 refine ⟨_, rfl, p, A'.dx, _, rfl, hh.ob, Qj, p, A', S, rfl, hh, h64, fun l0 hl0 => ⟨l0, rfl, ⟨_, SqL.of Qd⟩, ?_⟩⟩
 have s1 : Same H (upd H l0 (.lst ((names S).map V.int))) := Same.new hl0
 have n1 : (upd H l0 (.lst ((names S).map V.int))) l0 = some (.lst ((names S).map V.int)) := Qd
 generalize upd H l0 (.lst ((names S).map V.int)) = H1 at s1 n1 ⊢
 have nl : (names S).length < 64 := by simpa [names] using h64
 refine ZE (xs := (names S).map V.int) (fun i ys H' => H' = H1 ∧ ys = (((names S).take i).filter fun n => !decide (n ∈ hs)).map V.int) ⟨rfl, rfl⟩ ?_ (ZO (by simp; omega)) (fun i ys H' _ z => by rw [z.1]; exact SqL.of n1) ?_ ?_
 ·rintro i ys H' ⟨_, rfl⟩
  rw [List.length_map]
  exact Nat.le_trans (List.length_filter_le _ _) (by rw [List.length_take]; omega)
 ·rintro i x ys H' hx ⟨rfl, rfl⟩
  obtain ⟨n, hn, rfl⟩ := Qit hx
  refine ⟨_, rfl, _, rfl, l, _, rfl, .inl (SqL.of (s1 _ _ hl)), rfl, QcJ hs, _, rfl, ?_⟩
  show if (!inV (.int n) (hs.map V.int)) = true then _ else _
  rw [QdX, QY _ hn]
  by_cases e : n ∈ hs
  ·rw [decide_eq_true e]
   refine Qbg ⟨rfl, ?_⟩
   simp [e]
  ·rw [decide_eq_false e]
   refine QaK ⟨_, rfl, rfl, ?_⟩
   simp [e]
 rintro ys H' ⟨rfl, rfl⟩ r hr3
 rw [List.length_map, List.take_length]
 have ew : ((names S).filter fun n => !decide (n ∈ hs)) = Zg hs S.boxes := (Qbq hs S.boxes).symm
 rw [ew]
 have n3 : (upd H' r (.lst ((Zg hs S.boxes).map V.int))) r = some (.lst ((Zg hs S.boxes).map V.int)) := Qd
 have nr : H r = none := s1.free hr3
 have u0 : Upto C H p A' (upd H' r (.lst ((Zg hs S.boxes).map V.int))) A' S := (Upto.refl hh).same (s1.trans (Same.new hr3))
 have ro : r ∉ A'.foot p := hh.out nr
 generalize upd H' r (.lst ((Zg hs S.boxes).map V.int)) = H3 at n3 u0 ⊢
 refine ⟨_, rfl, r, rfl, ⟨_, SqL.of n3⟩, ?_⟩
 refine ZS (K := K) (xs := (Zg hs S.boxes).map V.int) (fun i σ H4 => ∃ v_name A4, σ = [some (.ref p), some (.ref l), some (.ref r), v_name] ∧ Upto C H p A' H4 A4 { S with boxes := S.boxes.filter fun b => !decide (b.name ∈ (Zg hs S.boxes).take i) } ∧ r ∉ A4.foot p ∧ H4 r = some (.lst ((Zg hs S.boxes).map V.int))) ?_ ?_ ?_ ?_
 ·refine ⟨_, A', rfl, ?_, ro, n3⟩
  have : (S.boxes.filter fun b => !decide (b.name ∈ (Zg hs S.boxes).take 0)) = S.boxes := by simp
  rw [this]
  exact u0
 ·rintro i σ H4 _ ⟨_, A4, rfl, _, _, h4⟩
  exact SqL.of h4
 ·rintro i y σ H4 hy ⟨v1, A4, rfl, u4, o4, h4⟩
  obtain ⟨n, hn, rfl⟩ := Qit hy
  obtain ⟨kk, b, hk, hbn, hf, hnot⟩ := Qh6 hh.nm hn
  have hnot : n ∉ (Zg hs S.boxes).take i := hnot
  subst hbn
  have hm : b ∈ S.boxes.filter fun b => !decide (b.name ∈ (Zg hs S.boxes).take i) := List.mem_filter.mpr ⟨List.mem_of_getElem? hk, by
   have hnot : b.name ∉ (Zg hs S.boxes).take i := hnot
   simp [hnot]⟩
  obtain ⟨j, hj⟩ := List.getElem?_of_mem hm
  refine ⟨_, rfl, p, A4.dx, _, rfl, u4.hh.ob, Qj, _, rfl, p, A4, _, j, b, rfl, u4.hh, hj, fun A5 H5 hh5 fr5 tu5 gr5 => ?_⟩
  have e5 : ((S.boxes.filter fun b => !decide (b.name ∈ (Zg hs S.boxes).take i)).eraseIdx j) = S.boxes.filter fun b => !decide (b.name ∈ (Zg hs S.boxes).take (i + 1)) := by
   rw [QhN u4.hh.nm hj, List.filter_filter, QbE hn]
   refine List.filter_congr fun x _ => ?_
   by_cases z1 : x.name = b.name <;> by_cases z2 : x.name ∈ (Zg hs S.boxes).take i <;> simp [z1, z2]
  have hh5' : HouseAt C H5 p A5 { S with boxes := S.boxes.filter fun b => !decide (b.name ∈ (Zg hs S.boxes).take (i + 1)) } := by rw [← e5]; exact hh5
  exact ⟨_, A5, rfl, u4.step hh5' fr5 tu5 gr5, gr5.out h4 o4, fr5 _ _ h4 o4⟩
 ·rintro σ H4 ⟨v1, A4, rfl, u4, o4, h4⟩
  rw [List.length_map, List.take_length, QkL] at u4
  exact ⟨_, rfl, k A4 H4 r u4 nr o4 h4⟩
theorem Qd4 : Qz (Qg QX) ["house", "held", "pairs", "broken", "name"] (QD ((QaJ (QeB (Qr QX) 0)))) "name" ["house"] [0] :=
 bsk
theorem Qd3 : Qz (Qg QX) ["house", "held", "pairs", "broken", "name"] (QD ((QaJ (QeB (Qr QX) 1)))) "name" ["house", "held"] [0, 1] :=
 bsk
theorem QeU (F : Fun K "break_pairs" "break_pairs" QX f fd) (T : TX K mg C) (M1_ : MethOk P w K mg base C n "kind" ["self", "name"] (Qe6 C) [[]])
  (D2_ : DefOk P w K mg base n "leads_to_unheld" ["house", "name", "held"] (Qh8 C) [[]])
  (M3_ : MethOk P w K mg base C n "put" ["self", "name", "at", "thing"] (Qlq C) [[]]) :
  FnOk P w K mg base CX0 (n + 1) f fd ["house", "held"] (Qew C) := by
 refine F.ok ZR (by rintro _ _ _ _ ⟨_, _, _, _, _, rfl, _⟩; rfl) fun _ _ _ s H vs Q E hr h => ?_
 obtain ⟨p, l, A', S, hs, rfl, hh, hl, hout, h64, hpr, hasc, hin, k⟩ := h
 have hu := Qu hr
 refine ⟨_, (Qb (Zo (i := 2) Qd4 rfl ZR.nd rfl (Or.inl rfl) (QQ (pv 1)) (fun _ _ _ _ => (QcT (Qp ZC (qm M1_ (pv 1) T.cl hr (Qa (pv 0) Qc)) Qab (Qv _)))) (fun _ _ _ _ => (pv 0)))
  (Qb (Zo (i := 3) Qd3 rfl ZR.nd rfl (Or.inl rfl) (QQ (pv 2)) (fun _ _ _ _ => (QcT (QaD (qc D2_ hr (Qa (pv 1) (Qa (pv 0) (Qa (pv 2) Qc))))))) (fun _ _ _ _ => (pv 0)))
  (Qb (Q7 PassesOwn.never rfl (QQ (pv 3)) (QR (i := 4) ZR.nd rfl (Or.inl rfl))
  (Qb (Qk (qm M3_ (pv 0) T.cl hr (Qa (pv 4) (Qa Qi (Qa Qdc Qc)))))
  (Qe (Qk (qm M3_ (pv 0) T.cl hr (Qa (pv 4) (Qa Qi (Qa Qdc Qc))))))))
  (Qe (Qq (pv 3)))))), ?_⟩
 have hnl : hs.length < 64 := by
  have := QbJ (hasc.imp fun z => Int.ne_of_lt z) hin
  have : (names S).length = S.boxes.length := by simp [names]
  omega
 have boxOf : ∀ n ∈ hs, ∃ (kk : Nat) (b : Box), S.boxes[kk]? = some b ∧ b.name = n := fun n hn => by
  obtain ⟨b, hb, e⟩ := List.mem_map.mp (hin n hn)
  obtain ⟨kk, hk⟩ := List.getElem?_of_mem hb
  exact ⟨kk, b, hk, e⟩
 let isP : Int → Bool := fun n => S.boxes.any fun b => decide (b.name = n) && decide (b.kind = ("pair" : Str))
 have isP_at : ∀ {kk : Nat} {b : Box}, S.boxes[kk]? = some b → isP b.name = decide (b.kind = ("pair" : Str)) := fun {kk b} hk => by
  have hm := List.mem_of_getElem? hk
  by_cases e : b.kind = "pair"
  ·rw [decide_eq_true e]
   exact List.any_eq_true.mpr ⟨b, hm, by simp [e]⟩
  ·rw [decide_eq_false e]
   refine Bool.eq_false_iff.mpr fun z => ?_
   obtain ⟨x, hx, q⟩ := List.any_eq_true.mp z
   have q : x.name = b.name ∧ x.kind = "pair" := by simpa using q
   rw [Qar hh.nm hx hm q.1] at q
   exact e q.2
 refine ⟨_, rfl, l, rfl, ⟨_, SqL.of hl⟩, ?_⟩
 refine ZE (xs := hs.map V.int) (fun i ys H' => H' = H ∧ ys = ((hs.take i).filter isP).map V.int) ⟨rfl, rfl⟩ ?_ (ZO (by simp; omega)) (fun i ys H' _ z => by rw [z.1]; exact SqL.of hl) ?_ ?_
 ·rintro i ys H' ⟨_, rfl⟩
  rw [List.length_map]
  exact Nat.le_trans (List.length_filter_le _ _) (by rw [List.length_take]; omega)
 ·rintro i x ys H' hx ⟨rfl, rfl⟩
  obtain ⟨n, hn, rfl⟩ := Qit hx
  obtain ⟨kk, b, hk, rfl⟩ := boxOf n (List.mem_of_getElem? hn)
  refine ⟨_, rfl, p, A'.dx, _, rfl, hh.ob, Qj, _, rfl, p, A', S, kk, b, rfl, hh, hk, rfl, _, rfl, ?_⟩
  have ei := isP_at hk
  rw [QY _ hn]
  by_cases e : b.kind = "pair"
  ·rw [decide_eq_true (show V.str b.kind = V.str "pair" by rw [e])]
   rw [decide_eq_true e] at ei
   refine QaK ⟨_, rfl, rfl, ?_⟩
   rw [if_pos ei]; simp
  ·rw [decide_eq_false (show ¬ V.str b.kind = V.str "pair" from fun z => e (V.str.inj z))]
   rw [decide_eq_false e] at ei
   refine Qbg ⟨rfl, ?_⟩
   rw [if_neg (by rw [ei]; decide)]; simp
 rintro ys H0 ⟨rfl, rfl⟩ l1 hl1
 rw [List.length_map, List.take_length]
 generalize hps : hs.filter isP = ps
 have hpsm : ∀ n ∈ ps, n ∈ hs ∧ isP n = true := fun n hn => by rw [← hps] at hn; exact List.mem_filter.mp hn
 have n2 : (upd H0 l1 (.lst (ps.map V.int))) l1 = some (.lst (ps.map V.int)) := Qd
 have s2 : Same H0 (upd H0 l1 (.lst (ps.map V.int))) := Same.new hl1
 generalize upd H0 l1 (.lst (ps.map V.int)) = H2 at n2 s2 ⊢
 have hh2 := hh.same s2
 have wl : ps.length < 64 := by rw [← hps]; exact Nat.lt_of_le_of_lt (List.length_filter_le _ _) hnl
 let ldP : Int → Bool := fun n => S.boxes.any fun b => decide (b.name = n) && QaY hs b
 have ldP_at : ∀ {kk : Nat} {b : Box}, S.boxes[kk]? = some b → ldP b.name = QaY hs b := fun {kk b} hk => by
  have hm := List.mem_of_getElem? hk
  cases e : QaY hs b with
  | true => exact List.any_eq_true.mpr ⟨b, hm, by simp [e]⟩
  | false =>
   refine Bool.eq_false_iff.mpr fun z => ?_
   obtain ⟨x, hx, q⟩ := List.any_eq_true.mp z
   have q : x.name = b.name ∧ QaY hs x = true := by simpa using q
   rw [Qar hh.nm hx hm q.1, e] at q
   exact Bool.false_ne_true q.2
 refine ⟨_, rfl, l1, rfl, ⟨_, SqL.of n2⟩, ?_⟩
 refine ZE (xs := ps.map V.int) (fun i ys H' => H' = H2 ∧ ys = ((ps.take i).filter ldP).map V.int) ⟨rfl, rfl⟩ ?_ (ZO (by simp; omega)) (fun i ys H' _ z => by rw [z.1]; exact SqL.of n2) ?_ ?_
 ·rintro i ys H' ⟨_, rfl⟩
  rw [List.length_map]
  exact Nat.le_trans (List.length_filter_le _ _) (by rw [List.length_take]; omega)
 ·rintro i x ys H' hx ⟨rfl, rfl⟩
  obtain ⟨n, hn, rfl⟩ := Qit hx
  obtain ⟨hnh, hnp⟩ := hpsm n (List.mem_of_getElem? hn)
  obtain ⟨kk, b, hk, rfl⟩ := boxOf n hnh
  rw [isP_at hk] at hnp
  have h2 := hpr b (List.mem_of_getElem? hk) (of_decide_eq_true hnp)
  refine ⟨_, rfl, _, rfl, _, rfl, p, l, A', S, kk, b, hs, rfl, hh2, hk, by omega, s2 _ _ hl, _, rfl, ?_⟩
  have ei := ldP_at hk
  rw [QY _ hn]
  cases e : QaY hs b with
  | true =>
   rw [e] at ei
   refine QaK ⟨_, rfl, rfl, ?_⟩
   rw [if_pos ei]; simp
  | false =>
   rw [e] at ei
   refine Qbg ⟨rfl, ?_⟩
   rw [if_neg (by rw [ei]; decide)]; simp
 rintro ys H' ⟨rfl, rfl⟩ r hr3
 rw [List.length_map, List.take_length]
 have ew : ps.filter ldP = ZI hs S.boxes := by
  refine Qle (hasc.sublist (by rw [← hps]; exact List.filter_sublist.trans List.filter_sublist)) ?_ fun n => ?_
  ·exact hh.asc.sublist (List.filter_sublist.map _)
  ·rw [← hps, List.mem_filter, List.mem_filter, ZI, List.mem_map]
   constructor
   ·rintro ⟨⟨q1, q2⟩, q3⟩
    obtain ⟨kk, b, hk, rfl⟩ := boxOf n q1
    rw [isP_at hk] at q2
    rw [ldP_at hk] at q3
    exact ⟨b, List.mem_filter.mpr ⟨List.mem_of_getElem? hk, by simp [q1, of_decide_eq_true q2, q3]⟩, rfl⟩
   ·rintro ⟨b, hb, rfl⟩
    obtain ⟨q1, q2⟩ := List.mem_filter.mp hb
    have q2 : b.name ∈ hs ∧ b.kind = "pair" ∧ QaY hs b = true := by simpa using q2
    obtain ⟨kk, hk⟩ := List.getElem?_of_mem q1
    rw [isP_at hk, ldP_at hk]
    exact ⟨⟨q2.1, decide_eq_true q2.2.1⟩, q2.2.2⟩
 rw [ew]
 have n3 : (upd H' r (.lst ((ZI hs S.boxes).map V.int))) r = some (.lst ((ZI hs S.boxes).map V.int)) := Qd
 have s3 := s2.trans (Same.new (o := .lst ((ZI hs S.boxes).map V.int)) hr3)
 have nr := s2.free hr3
 have u0 := (Upto.refl hh).same s3
 have ro : r ∉ A'.foot p := hh.out nr
 generalize upd H' r (.lst ((ZI hs S.boxes).map V.int)) = H3 at n3 u0 ⊢
 refine ⟨_, rfl, r, rfl, ⟨_, SqL.of n3⟩, ?_⟩
 refine ZS (K := K) (xs := (ZI hs S.boxes).map V.int) (fun i σ H4 => ∃ v_pairs v_name A4, σ = [some (.ref p), some (.ref l), v_pairs, some (.ref r), v_name] ∧ Upto C H0 p A' H4 A4 { S with boxes := brk ((ZI hs S.boxes).take i) Qih S.boxes } ∧ r ∉ A4.foot p ∧ H4 r = some (.lst ((ZI hs S.boxes).map V.int))) ?_ ?_ ?_ ?_
 ·refine ⟨_, _, A', rfl, ?_, ro, n3⟩
  rw [List.take_zero, Qla]
  exact u0
 ·rintro i σ H4 _ ⟨_, _, A4, rfl, _, _, h4⟩
  exact SqL.of h4
 ·rintro i y σ H4 hy ⟨v1, v2, A4, rfl, u4, o4, h4⟩
  obtain ⟨n, hn, rfl⟩ := Qit hy
  obtain ⟨kk, b, hk, hbn, hf, hnot⟩ := Qh6 hh.nm hn
  have hnot : n ∉ (ZI hs S.boxes).take i := hnot
  have hwb : b.name ∈ hs ∧ b.kind = "pair" ∧ QaY hs b = true := by simpa using hf
  subst hbn
  have h2 := hpr b (List.mem_of_getElem? hk) hwb.2.1
  have hk4 : (brk ((ZI hs S.boxes).take i) Qih S.boxes)[kk]? = some b := by rw [Qgy hk, if_neg hnot]
  refine ⟨_, rfl, p, A4.dx, _, rfl, u4.hh.ob, Qj, _, rfl, p, A4, _, kk, b, 0, .non, .non, rfl, u4.hh, hk4, by omega, rfl, (fun n' e => by cases e), fun A5 H5 hh5 fr5 tu5 gr5 => ?_⟩
  have hk5 : (ZH (brk ((ZI hs S.boxes).take i) Qih S.boxes) kk 0 .non)[kk]? = some { b with row := b.row.set 0 .non } := by rw [QdB, hk4]; simp
  have h4' := fr5 _ _ h4 o4
  have o4' := gr5.out h4 o4
  refine ⟨_, rfl, p, A5.dx, _, rfl, hh5.ob, Qj, _, rfl, p, A5, _, kk, { b with row := b.row.set 0 .non }, 1, .non, .non, rfl, hh5, hk5, by show 1 < (b.row.set 0 .non).length; rw [List.length_set]; omega, rfl, (fun n' e => by cases e), fun A6 H6 hh6 fr6 tu6 gr6 => ?_⟩
  have e5 : HS.put (HS.put { S with boxes := brk ((ZI hs S.boxes).take i) Qih S.boxes } kk 0 .non) kk 1 .non = { S with boxes := brk ((ZI hs S.boxes).take (i + 1)) Qih S.boxes } := by
   show HS.mk _ _ _ (ZH (ZH (brk ((ZI hs S.boxes).take i) Qih S.boxes) _ _ _) _ _ _) _ _ = _
   rw [QlX hh.nm hk hnot, QbE hn]
   rfl
  rw [e5] at hh6
  exact ⟨_, _, A6, rfl, (u4.step hh5 fr5 tu5 gr5).step hh6 fr6 tu6 gr6, gr6.out h4' o4', fr6 _ _ h4' o4'⟩
 ·rintro σ H4 ⟨v1, v2, A4, rfl, u4, o4, h4⟩
  rw [List.length_map, List.take_length] at u4
  exact ⟨_, rfl, k A4 H4 r u4 nr o4 h4⟩
end
theorem QmZ {b : Bool} {A B : Prop} (hAB : b = true → B → A) (h : B) : if b = true then A else B := by
 cases b with
 | true => exact QaK (hAB rfl h)
 | false => exact Qbg h
theorem four {α : Type} {l : List α} (h : l.length = 4) : ∃ a b c d, l = [a, b, c, d] := by
 match l, h with
 | [a, b, c, d], _ => exact ⟨a, b, c, d, rfl⟩
theorem QmA {hs : List Int} {S : HS} (hq : S.queues.length = 4) (ht : S.told.length = 4) :
  QaR hs S 4 = { S with queues := S.queues.map (·.filter fun n => decide (n ∈ hs)), told := List.zipWith (fun t q => t ++ q.filter fun n => !decide (n ∈ hs)) S.told S.queues } := by
 obtain ⟨room, slots, last, boxes, queues, told⟩ := S
 obtain ⟨q0, q1, q2, q3, rfl⟩ := four hq
 obtain ⟨t0, t1, t2, t3, rfl⟩ := four ht
 rfl
theorem Qhh {hs : List Int} {S S' : HS} (h : S'.queues = S.queues) : ∀ i, Z0 hs S' i = Z0 hs S i
 | 0 => rfl
 | i + 1 => by
  show Z0 hs S' i ++ _ = Z0 hs S i ++ _
  rw [Qhh h i, h]
section
variable {C : Addr} {H H1 : Hp} {p l : Addr} {A A1 : HA} {S1 : HS} {o o' : HO} {vs : List V}
theorem Upto.mine (u : Upto C H p A H1 A1 S1) (n : H l = none) (m : l ∉ A1.foot p) (hl : H1 l = some (.lst vs)) : Upto C H p A (upd H1 l o) A1 S1 where
 hh := u.hh.keep (fun b hb => Qh fun e => m (e ▸ hb)) (Tups.upd hl (by intro xs z; cases z))
 fr := fun b o' e nb => by rw [Qh (Qf e n)]; exact u.fr b o' e nb
 tu := fun b xs e => by rw [Qh (Qf e n)]; exact u.tu b xs e
 gr := u.gr
end
theorem Upto.back {C : Addr} {H H1 : Hp} {p b : Addr} {A A1 : HA} {S1 : HS} (u : Upto C H p A H1 A1 S1) (h : b ∈ A1.foot p ∨ H1 b = none) : b ∈ A.foot p ∨ H b = none := by
 rcases h with z | z
 ·exact u.gr b z
 ·by_cases m : b ∈ A.foot p
  ·exact .inl m
  ·right
   cases e : H b with
   | none => rfl
   | some o => rw [u.fr b o e m] at z; cases z
theorem Qe1 {hs : List Int} {S : HS} (h : ∀ xs ∈ S.queues, xs.length ≤ 900) : ∀ i, (Z0 hs S i).length ≤ 900 * i
 | 0 => Nat.le_refl _
 | i + 1 => by
  have ih := Qe1 (hs := hs) h i
  have hq : (S.queues.getD i []).length ≤ 900 := by
   rw [List.getD_eq_getElem?_getD]
   cases e : S.queues[i]? with
   | none => simp
   | some xs => exact h xs (List.mem_of_getElem? e)
  have hf := List.length_filter_le (fun n => !decide (n ∈ hs)) (S.queues.getD i [])
  show (Z0 hs S i ++ _).length ≤ _
  rw [List.length_append, List.length_map]
  omega
theorem HS.Ok.held {S : HS} {b0 : Option Int} (ok : S.Ok) (hb : ∀ n, b0 = some n → n ∈ names S) {n : Int} (h : QfW S b0 n) : n ∈ names S := by
 cases h with
 | slot h => exact ok.slot _ h n rfl
 | told h h2 => exact ok.told _ h n h2
 | bes h => exact hb n h
 | plain h1 h2 h3 h4 => exact ok.row _ h1 _ h4 n rfl
 | pairN h1 h2 h3 h4 h5 h6 => exact ok.row _ h1 _ (List.mem_of_getElem? h6) n rfl
 | pairK h1 h2 h3 h4 h5 h6 => exact ok.row _ h1 _ (List.mem_of_getElem? h6) n rfl
theorem Qds {ns : List Int} {f : List T → List T} {bs : List Box} {b : Box} (h : b ∈ brk ns f bs) : ∃ x ∈ bs, b = (if x.name ∈ ns then { x with row := f x.row } else x) := by
 obtain ⟨x, hx, e⟩ := List.mem_map.mp h
 exact ⟨x, hx, e.symm⟩
theorem QfD (r : List T) : (loose r).length = r.length := List.length_set
theorem QlB (r : List T) : (Qih r).length = r.length := by simp [Qih]
theorem QlJ {ns : List Int} {r : List T} {t : T} (h : ∀ t ∈ r, t.In ns) (ht : t ∈ loose r) : t.In ns := by
 rcases List.mem_or_eq_of_mem_set ht with z | z
 ·exact h t z
 ·subst z; intro n e; cases e
theorem HS.loosened_eq {S : HS} {hA : List Int} (q : S.OkQ) : S.loosened hA = { S with boxes := brk (Ze hA S.boxes) loose S.boxes, queues := S.queues.map (·.filter fun n => decide (n ∈ hA)), told := List.zipWith (fun t q => t ++ q.filter fun n => !decide (n ∈ hA)) S.told S.queues } :=
 QmA (S := { S with boxes := brk (Ze hA S.boxes) loose S.boxes }) q.q4 q.t4
theorem Qlj {hA : List Int} {ts qs : List (List Int)} {xs : List Int} (h : xs ∈ List.zipWith (fun t q => t ++ q.filter fun n => !decide (n ∈ hA)) ts qs) : ∀ n ∈ xs, (∃ t ∈ ts, n ∈ t) ∨ ∃ q ∈ qs, n ∈ q ∧ n ∉ hA := by
 obtain ⟨i, hi⟩ := List.getElem?_of_mem h
 obtain ⟨t, q, ht, hq, e⟩ := List.getElem?_zipWith_eq_some.mp hi
 intro n hn
 rw [← e] at hn
 rcases List.mem_append.mp hn with z | z
 ·exact .inl ⟨t, List.mem_of_getElem? ht, z⟩
 ·obtain ⟨z1, z2⟩ := List.mem_filter.mp z
  exact .inr ⟨q, List.mem_of_getElem? hq, z1, by simpa using z2⟩
theorem HS.OkW.loosened {S : HS} {hA : List Int} (w : S.OkW) : (S.loosened hA).Ok ∧ names (S.loosened hA) = names S ∧ (S.loosened hA).boxes = brk (Ze hA S.boxes) loose S.boxes ∧ (S.loosened hA).slots = S.slots := by
 rw [HS.loosened_eq w.q]
 have hn : names { S with boxes := brk (Ze hA S.boxes) loose S.boxes, queues := S.queues.map (·.filter fun n => decide (n ∈ hA)), told := List.zipWith (fun t q => t ++ q.filter fun n => !decide (n ∈ hA)) S.told S.queues } = names S := QeZ _ _ _
 refine ⟨⟨fun b hb t ht => ?_, fun b hb hk => ?_, fun t ht => ?_, fun xs hx n hn' => ?_, ?_, fun b hb => ?_⟩, hn, rfl, rfl⟩
 ·rw [hn]
  obtain ⟨x, hx, rfl⟩ := Qds hb
  by_cases e : x.name ∈ Ze hA S.boxes
  ·rw [if_pos e] at ht
   exact QlJ (w.ok.row x hx) ht
  ·rw [if_neg e] at ht
   exact w.ok.row x hx t ht
 ·obtain ⟨x, hx, rfl⟩ := Qds hb
  by_cases e : x.name ∈ Ze hA S.boxes
  ·rw [if_pos e] at hk ⊢
   exact (QfD x.row).trans (w.ok.pair x hx hk)
  ·rw [if_neg e] at hk ⊢
   exact w.ok.pair x hx hk
 ·rw [hn]; exact w.ok.slot t ht
 ·rw [hn]
  rcases Qlj hx n hn' with ⟨t, ht, m⟩ | ⟨q, hq, m, _⟩
  ·exact w.ok.told t ht n m
  ·exact w.q.nm q hq n m
 ·show (brk _ _ _).length ≤ 900
  rw [brk, List.length_map]; exact w.ok.few
 ·obtain ⟨x, hx, rfl⟩ := Qds hb
  by_cases e : x.name ∈ Ze hA S.boxes
  ·rw [if_pos e]
   show (loose x.row).length ≤ 900
   rw [QfD]; exact w.ok.eight x hx
  ·rw [if_neg e]; exact w.ok.eight x hx
theorem Qlh {S : HS} {bs : List Box} (q : S.OkQ) (h : bs.map (·.name) = names S) : HS.OkQ { S with boxes := bs } := ⟨q.q4, q.t4, q.un, fun xs hx n hn => by show n ∈ bs.map (·.name); rw [h]; exact q.nm xs hx n hn, q.few⟩
theorem QjH {H : Hp} {ws : List (Nat × Int)} {as : List Addr} {a : Addr} {x : Nat × Int} (h : Paired (fun (x : Nat × Int) a => H a = some (.tup [.int (x.1 : Int), .int x.2])) ws as) (e : H a = some (.tup [.int (x.1 : Int), .int x.2])) :
  Paired (fun (x : Nat × Int) a => H a = some (.tup [.int (x.1 : Int), .int x.2])) (ws ++ [x]) (as ++ [a]) := Qbc h (.cons e .nil)
theorem QbN {H H' : Hp} {ws : List (Nat × Int)} {as : List Addr} (t : Tups H H') (h : Paired (fun (x : Nat × Int) a => H a = some (.tup [.int (x.1 : Int), .int x.2])) ws as) : Paired (fun (x : Nat × Int) a => H' a = some (.tup [.int (x.1 : Int), .int x.2])) ws as := QH (fun _ _ _ _ z => t _ _ z) h
theorem QjS (S : HS) (g : Nat) (a b c d : List Int) : (S.tell g a b).tell g c d = S.tell g c d := by simp [HS.tell]
theorem QjT {S : HS} {g : Nat} {a b : List Int} (h1 : S.queues[g]? = some a) (h2 : S.told[g]? = some b) : S.tell g a b = S := by
 unfold HS.tell; rw [Qma h1, Qma h2]
section
variable {C CS : Addr}
theorem QeO (F : Fun K "tell_unheld" "tell_unheld" Qa8 f fd) (T : TX K mg C) (M1_ : MethOk P w K mg base C n "waiting" ["self", "guard"] (Qdu C) [[]])
  (M2_ : MethOk P w K mg base C n "tell" ["self", "guard", "name"] (Ql4 C) [[]]) :
  FnOk P w K mg base CX0 (n + 1) f fd ["house", "held"] (Qes C) := by
 refine F.ok ZQ (by rintro _ _ _ _ ⟨_, _, _, _, _, rfl, _⟩; rfl) fun _ _ _ s H vs Q E hr h => ?_
 obtain ⟨p, l, A', S, hs, rfl, hh, hl, hout, hQ, k⟩ := h
 have hu := Qu hr
 refine ⟨_, (Qb (Qw (i := 2) ZQ.nd rfl (Or.inl rfl) (Zu Qc))
  (Qb (Q7 PassesOwn.never rfl (QL (by rfl) T.g_range (Qa (Qo Qs (by rfl) T.g_len PySem.boot_len (Qa (QB (pv 0) rfl) Qc)) Qc)) (QR (i := 3) ZQ.nd rfl (Or.inl rfl))
  (Qe (Q7 PassesOwn.never rfl (QQ (qm M1_ (pv 0) T.cl hr (Qa (pv 3) Qc))) (QR (i := 4) ZQ.nd rfl (Or.inl rfl))
  (Qe (QA (Qp Qbo (pv 4) (pv 1) rfl) (Qb (Qk (qm M2_ (pv 0) T.cl hr (Qa (pv 3) (Qa (pv 4) Qc))))
  (Qe (Qk (Qfp PySem.F.plainAttrs_list PySem.F.slot_list_append PySem.F.type_list_append QaG (pv 2) (Qa (QaE (Qa (pv 3) (Qa (pv 4) Qc))) Qc))))) Qn)))))
  (Qe (Qq (pv 2))))), ?_⟩
 refine ⟨by decide, fun wl hwl => ?_⟩
 have u0 : Upto C H p A' (upd H wl (.lst [])) A' S := (Upto.refl hh).new hwl
 have w0 : (upd H wl (.lst [])) wl = some (.lst []) := Qd
 generalize upd H wl (.lst []) = H1 at u0 w0 ⊢
 have ro : wl ∉ A'.foot p := hh.out hwl
 have e4 : (A'.tl.map V.ref).length = 4 := by rw [List.length_map, ← QG hh.tl]; exact hQ.t4
 refine ⟨_, rfl, p, C, A'.dx, _, _, rfl, u0.hh.ob, T.cl, T.n_told, Qg5, A'.td, _, rfl, .inl (SqL.of u0.hh.td), ?_⟩
 rw [e4]
 refine ⟨4, rfl, by decide, by decide, ?_⟩
 refine ZP (lo := 0) (n := 4) (fun i σ H4 => ∃ v_guard v_name A4 as, σ = [some (.ref p), some (.ref l), some (.ref wl), v_guard, v_name] ∧ Upto C H p A' H4 A4 (QaR hs S i) ∧ wl ∉ A4.foot p ∧ Qhd H4 wl (Z0 hs S i) as) ?_ ?_ ?_
 ·exact ⟨_, _, A', [], rfl, u0, ro, w0, .nil⟩
 ·rintro i σ H4 hi ⟨v1, v2, A4, as, rfl, u4, o4, hw4, hp4⟩
  have e0 : (0 : Int) + (i : Int) = (i : Int) := Int.zero_add _
  rw [e0]
  obtain ⟨xs, hxs⟩ : ∃ xs, S.queues[i]? = some xs := ⟨S.queues[i]'(by have := hQ.q4; omega), List.getElem?_eq_getElem _⟩
  obtain ⟨ys, hys⟩ : ∃ ys, S.told[i]? = some ys := ⟨S.told[i]'(by have := hQ.t4; omega), List.getElem?_eq_getElem _⟩
  obtain ⟨rq, rt⟩ := Qe4 hs S i i (Nat.le_refl _)
  rw [hxs] at rq
  rw [hys] at rt
  have hxm := List.mem_of_getElem? hxs
  have hnd := hQ.un xs hxm
  have hfew := hQ.few i xs ys hxs hys
  refine ⟨_, rfl, p, A4.dx, _, rfl, u4.hh.ob, Qj, _, rfl, p, A4, _, i, xs, rfl, u4.hh, hi, rq, fun ql hql => ⟨ql, rfl, ⟨_, SqL.of Qd⟩, ?_⟩⟩
  have qo : ql ∉ A4.foot p := u4.hh.out hql
  have qw : ql ≠ wl := (Qf hw4 hql).symm
  have u5 := u4.new (o := .lst (xs.map V.int)) hql
  have q5 : (upd H4 ql (.lst (xs.map V.int))) ql = some (.lst (xs.map V.int)) := Qd
  have hw5 := Zk (o := .lst (xs.map V.int)) hw4 hql
  have hp5 := QbN (Tups.new (o := .lst (xs.map V.int)) hql) hp4
  generalize upd H4 ql (.lst (xs.map V.int)) = H5 at u5 q5 hw5 hp5 ⊢
  have qlen : (QaR hs S i).queues.length > i ∧ (QaR hs S i).told.length > i := ⟨(List.getElem?_eq_some_iff.mp rq).1, (List.getElem?_eq_some_iff.mp rt).1⟩
  refine ZS (K := K) (xs := xs.map V.int) (fun j σ H6 => ∃ v_name A6 as, σ = [some (.ref p), some (.ref l), some (.ref wl), some (.int (i : Int)), v_name] ∧
   Upto C H p A' H6 A6 ((QaR hs S i).tell i ((xs.take j).filter (fun n => decide (n ∈ hs)) ++ xs.drop j) (ys ++ (xs.take j).filter fun n => !decide (n ∈ hs))) ∧ wl ∉ A6.foot p ∧ ql ∉ A6.foot p ∧ H6 ql = some (.lst (xs.map V.int)) ∧
   Qhd H6 wl (Z0 hs S i ++ ((xs.take j).filter fun n => !decide (n ∈ hs)).map fun n => (i, n)) as) ?_ ?_ ?_ ?_
  ·refine ⟨_, A4, as, rfl, ?_, o4, qo, q5, ?_, ?_⟩
   ·have e : (QaR hs S i).tell i ((xs.take 0).filter (fun n => decide (n ∈ hs)) ++ xs.drop 0) (ys ++ (xs.take 0).filter fun n => !decide (n ∈ hs)) = QaR hs S i := by simpa using QjT rq rt
    rw [e]; exact u5
   ·exact hw5
   ·simpa using hp5
  ·rintro j σ H6 _ ⟨_, A6, as, rfl, _, _, _, h6, _⟩
   exact SqL.of h6
  ·rintro j y σ H6 hy ⟨v3, A6, as6, rfl, u6, o6, qo6, q6, hw6, hp6⟩
   obtain ⟨n, hn, rfl⟩ := Qit hy
   obtain ⟨hl6, lo6⟩ := u6.keep hl hout
   refine ⟨_, rfl, _, rfl, l, _, rfl, .inl (SqL.of hl6), rfl, QcJ hs, _, rfl, ?_⟩
   show if (!inV (.int n) (hs.map V.int)) = true then _ else _
   rw [QdX]
   by_cases e : n ∈ hs
   ·rw [decide_eq_true e]
    refine Qbg ⟨_, A6, as6, rfl, ?_, o6, qo6, q6, hw6, ?_⟩
    ·rw [QY _ hn, QY _ hn]
     have e1 : (xs.take j).filter (fun n => decide (n ∈ hs)) ++ (if decide (n ∈ hs) = true then [n] else []) ++ xs.drop (j + 1) = (xs.take j).filter (fun n => decide (n ∈ hs)) ++ xs.drop j := by rw [Qm4 hn]; simp [e]
     have e2 : (xs.take j).filter (fun n => !decide (n ∈ hs)) ++ (if (!decide (n ∈ hs)) = true then [n] else []) = (xs.take j).filter (fun n => !decide (n ∈ hs)) := by simp [e]
     rw [e1, e2]; exact u6
    ·rw [QY _ hn]
     have e2 : (xs.take j).filter (fun n => !decide (n ∈ hs)) ++ (if (!decide (n ∈ hs)) = true then [n] else []) = (xs.take j).filter (fun n => !decide (n ∈ hs)) := by simp [e]
     rw [e2]; exact hp6
   ·rw [decide_eq_false e]
    obtain ⟨mm, me⟩ := Qln hnd hn fun n => decide (n ∈ hs)
    refine QaK ⟨_, rfl, p, A6.dx, _, rfl, u6.hh.ob, Qj, _, rfl, _, rfl, p, A6, _, i, _, _, n, rfl, u6.hh, by show ((QaR hs S i).queues.set i _)[i]? = _; rw [List.getElem?_set_self qlen.1], by show ((QaR hs S i).told.set i _)[i]? = _; rw [List.getElem?_set_self qlen.2], mm, ?_, fun A7 H7 hh7 fr7 tu7 gr7 => ?_⟩
    ·have h1 := List.length_filter_le (fun n => !decide (n ∈ hs)) (xs.take j)
     have h2 : (xs.take j).length ≤ xs.length := by rw [List.length_take]; omega
     rw [List.length_append]; omega
    rw [QjS, me] at hh7
    have u7 := u6.step hh7 fr7 tu7 gr7
    have q7 := fr7 _ _ q6 qo6
    have qo7 := gr7.out q6 qo6
    have hw7 := fr7 _ _ hw6 o6
    have o7 := gr7.out hw6 o6
    have hp7 := QbN tu7 hp6
    refine ⟨_, rfl, .inl ⟨rfl, _, SqL.of hw7⟩, _, rfl, _, rfl, zl, fun tp htp => ⟨wl, _, _, rfl, rfl, Zk hw7 htp, ?_, ?_⟩⟩
    ·have h0 := QG hp7
     have h1 := Qe1 (hs := hs) (S := S) (fun zs hz => by
      obtain ⟨g, hg⟩ := List.getElem?_of_mem hz
      have hg4 : g < S.told.length := by have := (List.getElem?_eq_some_iff.mp hg).1; have := hQ.q4; have := hQ.t4; omega
      have := hQ.few g zs _ hg (List.getElem?_eq_getElem hg4)
      omega) i
     have h2 := List.length_filter_le (fun n => !decide (n ∈ hs)) (xs.take j)
     have h3 : (xs.take j).length ≤ xs.length := by rw [List.length_take]; omega
     rw [List.length_append, List.length_map] at h0
     rw [List.length_map, PySem.sizeLine_eq]
     omega
    have u8 := u7.new (o := .tup [.int (i : Int), .int n]) htp
    have hw8 := Zk (o := .tup [.int (i : Int), .int n]) hw7 htp
    have hp8 := QjH (x := (i, n)) (QbN (Tups.new (o := .tup [.int (i : Int), .int n]) htp) hp7) Qd
    have q8 := Zk (o := .tup [.int (i : Int), .int n]) q7 htp
    generalize upd H7 tp (.tup [.int (i : Int), .int n]) = H8 at u8 hw8 hp8 q8 ⊢
    refine ⟨_, A7, as6 ++ [tp], rfl, ?_, o7, qo7, by rw [Qh qw]; exact q8, ?_, ?_⟩
    ·rw [QY _ hn, QY _ hn]
     have e1 : (xs.take j).filter (fun n => decide (n ∈ hs)) ++ (if decide (n ∈ hs) = true then [n] else []) ++ xs.drop (j + 1) = (xs.take j).filter (fun n => decide (n ∈ hs)) ++ xs.drop (j + 1) := by simp [e]
     have e2 : ys ++ ((xs.take j).filter (fun n => !decide (n ∈ hs)) ++ (if (!decide (n ∈ hs)) = true then [n] else [])) = ys ++ (xs.take j).filter (fun n => !decide (n ∈ hs)) ++ [n] := by simp [e]
     rw [e1, e2]; exact u8.mine hwl o7 hw8
    ·rw [Qd, List.map_append]; rfl
    ·rw [QY _ hn]
     have e2 : (((xs.take j).filter (fun n => !decide (n ∈ hs)) ++ (if (!decide (n ∈ hs)) = true then [n] else [])).map fun n => (i, n)) = ((xs.take j).filter (fun n => !decide (n ∈ hs))).map (fun n => (i, n)) ++ [(i, n)] := by simp [e]
     rw [e2, ← List.append_assoc]
     exact QbN (Tups.upd hw8 (by intro xs z; cases z)) hp8
  ·rintro σ H6 ⟨v3, A6, as6, rfl, u6, o6, qo6, q6, hw6, hp6⟩
   rw [List.length_map, List.take_length, List.drop_length, List.append_nil, ← Qlo rq rt] at u6
   rw [List.length_map, List.take_length, ← Qhg hxs] at hp6
   exact ⟨_, _, A6, as6, rfl, u6, o6, hw6, hp6⟩
 ·rintro σ H4 ⟨v1, v2, A4, as, rfl, u4, o4, hw4⟩
  exact ⟨_, rfl, k A4 H4 wl as u4 hwl o4 hw4⟩
theorem Qjo {ds : List Value} (F : FunD K "sweep" "sweep" QdF f fd ds) (T : TX K mg C) (M1_ : MethOk P w K mg base C n "check_box" ["self", "name"] (Zl C) [[]])
  (D2_ : DefOk P w K mg base n "living" ["house", "besides"] (QiG C) [[], [.none]])
  (D3_ : DefOk P w K mg base n "break_weak" ["house", "held"] (Qe9 C) [[]])
  (D4_ : DefOk P w K mg base n "tell_unheld" ["house", "held"] (Qes C) [[]])
  (D5_ : DefOk P w K mg base n "break_pairs" ["house", "held"] (Qew C) [[]])
  (D6_ : DefOk P w K mg base n "drop_unheld" ["house", "held"] (Qeu C) [[]]) :
  FnOk P w K mg base CX0 (n + 1) f fd ["house", "besides"] (Qj0 C) := by
 refine F.ok ZZ (by rintro _ _ _ _ ⟨_, _, _, _, rfl, _⟩; rfl) fun _ _ _ s H vs Q E hr h => ?_
 obtain ⟨p, A', S, b0, rfl, hh, hW, hb0, k⟩ := h
 have hu := Qu hr
 refine ⟨_, (Qb (QA (Qag (Qbz (pv 1))) (Qe (Qk (qm M1_ (pv 0) T.cl hr (Qa (pv 1) Qc)))) Qn)
  (Qb (Qw (i := 2) ZZ.nd rfl (Or.inl rfl) (qc D2_ hr (Qa (pv 0) (Qa (pv 1) Qc))))
  (Qb (Qw (i := 3) ZZ.nd rfl (Or.inl rfl) (qc D3_ hr (Qa (pv 0) (Qa (pv 2) Qc))))
  (Qb (Qw (i := 4) ZZ.nd rfl (Or.inl rfl) (qc D4_ hr (Qa (pv 0) (Qa (pv 2) Qc))))
  (Qb (Qw (i := 5) ZZ.nd rfl (Or.inl rfl) (qc D2_ hr (Qa (pv 0) (Qa (pv 1) Qc))))
  (Qb (Qw (i := 6) ZZ.nd rfl (Or.inl rfl) (qc D5_ hr (Qa (pv 0) (Qa (pv 5) Qc))))
  (Qb (Qw (i := 7) ZZ.nd rfl (Or.inl rfl) (qc D6_ hr (Qa (pv 0) (Qa (pv 5) Qc))))
  (Qe (Qq (QaE (Qa (pv 7) (Qa (pv 3) (Qa (pv 6) (Qa (pv 4) Qc)))))))))))))), ?_⟩
 refine ⟨_, rfl, _, rfl, QmZ (fun hb h => ?_) ?_⟩
 ·cases b0 with
  | none => exact absurd hb (by decide)
  | some n => exact ⟨_, rfl, p, A'.dx, _, rfl, hh.ob, Qj, _, rfl, p, A', S, n, rfl, hh, hb0 n rfl, h⟩
 refine ⟨_, rfl, _, rfl, p, A', S, b0, rfl, hh, hW.ok, hW.few, hb0, fun lA hA H1 s1 nlA hlA asA heA => ?_⟩
 have hh1 := hh.same s1
 have oA : lA ∉ A'.foot p := hh.out nlA
 refine ⟨_, rfl, _, rfl, p, lA, A', S, hA, rfl, hh1, hlA, oA, hW.few, (fun b hb hk => by have := hW.weak b hb hk; omega), fun A2 H2 r2 u2 nr2 or2 hr2 => ?_⟩
 obtain ⟨hl2, lo2⟩ := u2.keep hlA oA
 refine ⟨_, rfl, _, rfl, p, lA, A2, _, hA, rfl, u2.hh, hl2, lo2, Qlh hW.q (QeZ _ _ _), fun A3 H3 r3 as u3 nr3 or3 hr3 => ?_⟩
 obtain ⟨hr2', or2'⟩ := u3.keep hr2 or2
 obtain ⟨ok2, nm2, bx2, sl2⟩ := hW.loosened (hA := hA)
 have few2 : (S.loosened hA).boxes.length < 64 := by rw [bx2, brk, List.length_map]; exact hW.few
 have u3' : Upto C H2 p A2 H3 A3 (S.loosened hA) := u3
 refine ⟨_, rfl, _, rfl, p, A3, S.loosened hA, b0, rfl, u3'.hh, ok2, few2, fun n e => by rw [nm2]; exact hb0 n e, fun lB hB H4 s4 nlB hlB asB heB => ?_⟩
 have u4 := u3'.same s4
 have oB : lB ∉ A3.foot p := u3'.hh.out nlB
 refine ⟨_, rfl, _, rfl, p, lB, A3, S.loosened hA, hB, rfl, u4.hh, hlB, oB, few2, ok2.pair, asB, fun n hn => ok2.held (fun n e => by rw [nm2]; exact hb0 n e) ((heB n).mp hn), fun A5 H5 r5 u5 nr5 or5 hr5 => ?_⟩
 obtain ⟨hl5, lo5⟩ := u5.keep hlB oB
 refine ⟨_, rfl, _, rfl, p, lB, A5, _, hB, rfl, u5.hh, hl5, lo5, by show (brk _ _ _).length < 64; rw [brk, List.length_map]; exact few2, fun A6 H6 r6 u6 nr6 or6 hr6 => ?_⟩
 refine ⟨_, rfl, _, rfl, _, rfl, _, rfl, zl, fun v hv => ?_⟩
 rw [Qjw] at hr6
 have U1 := (Upto.refl hh).same s1
 have U2 := U1.trans u2
 have U3 := U2.trans u3'
 have U4 := U3.same s4
 have U5 := U4.trans u5
 have U6 := U5.trans u6
 have hr3' := hr3.1
 have hr2_4 := s4 _ _ hr2'
 have hr3_4 := s4 _ _ hr3'
 obtain ⟨hr2_5, or2_5⟩ := u5.keep hr2_4 or2'
 obtain ⟨hr3_5, or3_5⟩ := u5.keep hr3_4 or3
 obtain ⟨hr2_6, or2_6⟩ := u6.keep hr2_5 or2_5
 obtain ⟨hr3_6, or3_6⟩ := u6.keep hr3_5 or3_5
 obtain ⟨hr5_6, or5_6⟩ := u6.keep hr5 or5
 have tu7 : Tups H3 (upd H6 v (.tup [.ref r6, .ref r2, .ref r5, .ref r3])) := (Tups.of_same s4).trans (u5.tu.trans (u6.tu.trans (Tups.new hv)))
 refine k A6 _ hA hB _ v r6 r2 r5 r3 as ⟨asA, heA, asB, heB, rfl⟩ (U6.new hv) ⟨Qd, Zk hr6 hv, Zk hr2_6 hv, Zk hr5_6 hv, Zk hr3_6 hv, ?_⟩ (fun b hb => ?_) (fun b hb => ?_) ?_
 ·have := QbN tu7 hr3.2
  rw [Qhh rfl] at this
  exact this
 ·simp only [List.mem_cons, List.not_mem_nil, or_false] at hb
  rcases hb with rfl | rfl | rfl | rfl
  ·exact U5.back (.inr nr6)
  ·exact U1.back (.inr nr2)
  ·exact U4.back (.inr nr5)
  ·exact U2.back (.inr nr3)
 ·simp only [List.mem_cons, List.not_mem_nil, or_false] at hb
  rcases hb with rfl | rfl | rfl | rfl
  ·exact or6
  ·exact or2_6
  ·exact or5_6
  ·exact or3_6
 ·have a1 : r6 ≠ r2 := (Qf hr2_5 nr6).symm
  have a2 : r6 ≠ r5 := (Qf hr5 nr6).symm
  have a3 : r6 ≠ r3 := (Qf hr3_5 nr6).symm
  have a4 : r2 ≠ r5 := Qf hr2_4 nr5
  have a5 : r2 ≠ r3 := Qf hr2 nr3
  have a6 : r5 ≠ r3 := (Qf hr3_4 nr5).symm
  simp [a1, a2, a3, a4, a5, a6]
end
def Ql6 (C : Addr) : Sp := fun vs H Q _ => ∃ (p : Addr) (A : HA) (S : HS), vs = [.ref p] ∧ HouseAt C H p A S ∧ S.boxes.length < 64 ∧ (∀ b ∈ S.boxes, b.row.length ≤ 900) ∧
 ∀ m ak ar H', Same H H' → H' m = some (.tup [.ref ak, .ref ar]) → RecNew H H' ak ar S.boxes → Q (.ref m) H'
section
variable {C CS : Addr}
theorem QfQ : Qz (Qg QaC) ["house", "kinds", "rows", "name"] (QD ((QaJ (QeB (Qiu (QeB (Qr QaC) 2)) 1)))) "at" ["name", "house"] [3, 0] :=
 bsk
theorem QgR (F : Fun K "_law_read" "_law_read" QaC f fd) (T : TX K mg C) (M1_ : MethOk P w K mg base C n "names" ["self"] (Qea C) [[]])
  (M2_ : MethOk P w K mg base C n "kind" ["self", "name"] (Qe6 C) [[]])
  (M3_ : MethOk P w K mg base C n "size" ["self", "name"] (Qhl C) [[]])
  (M4_ : MethOk P w K mg base C n "field" ["self", "name", "at"] (Qcj C) [[]]) :
  FnOk P w K mg base CX0 (n + 1) f fd ["house"] (Ql6 C) := by
 refine F.ok QaW (by rintro _ _ _ _ ⟨_, _, _, rfl, _⟩; rfl) fun _ _ _ s H vs Q E hr h => ?_
 obtain ⟨p, A', S, rfl, hh, h64, hrow, k⟩ := h
 have hu := Qu hr
 refine ⟨_, (Qb (Qw (i := 1) QaW.nd rfl (Or.inl rfl) Qbn)
  (Qb (Qw (i := 2) QaW.nd rfl (Or.inl rfl) Qbn)
  (Qb (Q7 PassesOwn.never rfl (QQ (qm0 M1_ (pv 0) T.cl hr)) (QR (i := 3) QaW.nd rfl (Or.inr rfl))
  (Qb (Qcz hu (pv 1) (pv 3) (qm M2_ (pv 0) T.cl hr (Qa (pv 3) Qc)) rfl)
  (Qe (Qcz hu (pv 2) (pv 3) (Qbd QfQ rfl (QL (by rfl) T.g_range (Qa (qm M3_ (pv 0) T.cl hr (Qa (pv 3) Qc)) Qc)) (fun _ _ _ _ => Zd) (fun _ _ _ _ => (qm M4_ (pv 2) T.cl hr (Qa (pv 1) (Qa (pv 0) Qc))))) rfl))))
  (Qe (Qq (QaE (Qa (pv 1) (Qa (pv 2) Qc)))))))), ?_⟩
 refine fun ak hak => ?_
 refine fun ar har => ?_
 have hra : ar ≠ ak := fun e => by rw [e, Qd] at har; cases har
 have har0 : H ar = none := (Same.new hak).free har
 have s0 : Same H (upd (upd H ak (.dK [])) ar (.dK [])) := (Same.new hak).trans (Same.new har)
 have ek : (upd (upd H ak (.dK [])) ar (.dK [])) ak = some (.dK []) := Zk Qd har
 have er : (upd (upd H ak (.dK [])) ar (.dK [])) ar = some (.dK []) := Qd
 generalize upd (upd H ak (.dK [])) ar (.dK []) = H0 at s0 ek er ⊢
 have hh0 := hh.same s0
 have nl : (names S).length < 64 := by simpa [names] using h64
 refine ⟨_, rfl, p, A'.dx, _, rfl, hh0.ob, Qj, p, A', S, rfl, hh0, h64, fun l hl => ⟨l, rfl, ⟨_, SqL.of Qd⟩, ?_⟩⟩
 have lk : l ≠ ak := (Qf ek hl).symm
 have la : l ≠ ar := (Qf er hl).symm
 refine ZS (K := K) (xs := (names S).map V.int) (fun i σ H' => ∃ v_name, σ = [some (.ref p), some (.ref ak), some (.ref ar), v_name] ∧ Same H H' ∧ H' l = some (.lst ((names S).map V.int)) ∧ RecNew H H' ak ar (S.boxes.take i)) ?_ ?_ ?_ ?_
 ·refine ⟨_, rfl, s0.trans (Same.new hl), Qd, [], Zk ek hl, Zk er hl, .nil, by simp [hra.symm], ?_⟩
  intro b hb
  have hb : b = ak ∨ b = ar := by simpa using hb
  rcases hb with rfl | rfl
  ·exact hak
  ·exact har0
 ·rintro i σ H1 _ ⟨_, rfl, _, h1, _⟩
  exact SqL.of h1
 ·rintro i y σ H1 hy ⟨v1, rfl, s1, hl1, hR⟩
  obtain ⟨b, hb, rfl⟩ := Qmm hy
  have hlt := (List.getElem?_eq_some_iff.mp hb).1
  have hh1 := hh.same s1
  have hR0 := hR
  obtain ⟨fl, e1, e2, pf, nd, fr⟩ := hR
  have hlen : (S.boxes.take i).length = i := by rw [List.length_take]; omega
  have hfl := QG pf
  have hout : b.name ∉ (S.boxes.take i).map (·.name) := fun z => by
   obtain ⟨j, hj⟩ := List.getElem?_of_mem z
   have hjl := (List.getElem?_eq_some_iff.mp hj).1
   have hji : j < i := by simp at hjl; omega
   rw [List.map_take, List.getElem?_take_of_lt hji] at hj
   have := QbK hh.nm hj (show (S.boxes.map (·.name))[i]? = some b.name by rw [List.getElem?_map, hb]; rfl)
   omega
  refine ⟨_, rfl, p, A'.dx, _, rfl, hh1.ob, Qj, _, rfl, p, A', S, i, b, rfl, hh1, hb, _, rfl, _, rfl, ak, _, rfl, DPut.k (k := Sum.inl b.name) e1 (by rw [Qx, List.length_map, hlen]; exact QO (by omega)), ?_⟩
  generalize eH2 : upd H1 ak (.dK (Qci (Qx (S.boxes.take i)) (Sum.inl b.name) (.str b.kind))) = H2
  have sH2 : Same H H2 := fun c o e => by rw [← eH2, Qh (Qf e hak)]; exact s1 _ _ e
  have hh2 := hh.same sH2
  have hl2 : H2 l = some (.lst ((names S).map V.int)) := by rw [← eH2, Qh lk]; exact hl1
  refine ⟨_, rfl, p, A'.dx, _, rfl, hh2.ob, Qj, _, rfl, p, A', S, i, b, rfl, hh2, hb, (b.row.length : Int), rfl, by omega, by have := hrow b (List.mem_of_getElem? hb); omega, ?_⟩
  refine Qaq (lo := 0) (n := ((b.row.length : Int)).toNat) (fun j ys H' => H' = H2 ∧ Ths H2 (b.row.take j) ys) ⟨rfl, .nil⟩ ?_ (ZO (by have := hrow b (List.mem_of_getElem? hb); omega)) ?_ ?_
  ·rintro j ys H' ⟨_, ht⟩
   rw [← QG ht, List.length_take]; omega
  ·rintro j ys H' hj ⟨rfl, ht⟩
   dsimp only [Qc0]
   have e0 : (0 : Int) + (j : Int) = (j : Int) := Int.zero_add _
   rw [e0]
   have hjr : j < b.row.length := by omega
   refine QaK ⟨_, rfl, p, A'.dx, _, rfl, hh2.ob, Qj, _, rfl, _, rfl, p, A', S, i, b, j, b.row[j], rfl, hh2, hb, List.getElem?_eq_getElem hjr, fun v tv => ⟨rfl, ?_⟩⟩
   rw [QbE (List.getElem?_eq_getElem hjr)]
   exact Qbc ht (.cons tv .nil)
  ·rintro ys H4 ⟨rfl, ht⟩ r hr4
   have htt : Ths H4 b.row ys := by
    rw [show ((b.row.length : Int)).toNat = b.row.length by omega, List.take_length] at ht
    exact ht
   have r2 : H4 ar = some (.dK (Qt (S.boxes.take i) fl)) := by rw [← eH2, Qh hra]; exact e2
   have s34 : Same H4 (upd H4 r (.lst ys)) := Same.new hr4
   refine ⟨_, rfl, _, rfl, ar, _, rfl, DPut.k (k := Sum.inl b.name) (s34 _ _ r2) (by rw [Qt, List.length_map, List.length_zip]; exact QO (by omega)), ?_⟩
   refine ⟨_, rfl, fun c o e => ?_, ?_, ?_⟩
   ·rw [Qh (Qf e har0)]; exact s34 _ _ (sH2 _ _ e)
   ·rw [Qh la]; exact s34 _ _ hl2
   ·rw [QbE hb]
    refine hR0.snoc (b := b) (a := r) (Same.refl _) hout eH2.symm s34 ⟨ys, Qd, Ths.keep (Tups.new hr4) htt⟩ hr4 sH2 fun fl' h => ?_
    rw [HO.dK.inj (Option.some.inj (h.symm.trans (s34 _ _ r2)))]
 ·rintro σ H1 ⟨v1, rfl, s1, hl1, hR⟩
  rw [List.length_map, show (names S).length = S.boxes.length by simp [names], List.take_length] at hR
  refine ⟨_, rfl, _, rfl, zl, fun m hm => ?_⟩
  exact k m ak ar _ (s1.trans (Same.new hm)) Qd (hR.same (Same.new hm))
end
theorem QiV {f g : Int → Bool} (h : ∀ n, g n = !f n) : ∀ xs : List Int, (xs.filter f).length + (xs.filter g).length = xs.length
 | [] => rfl
 | x :: xs => by
  have ih := QiV h xs
  have e := h x
  cases z : f x
  ·rw [z] at e; simp [z, e]; omega
  ·rw [z] at e; simp [z, e]; omega
section
variable {S S' : HS} {b0 : Option Int} {hA hB : List Int}
theorem Qe3 {bs : List Box} (nd : (bs.map (·.name)).Nodup) {b : Box} (hb : b ∈ bs) (h : b.name ∈ Ze hA bs) : b.kind = "weak" ∧ QaY hA b = true := by
 obtain ⟨x, hx, e⟩ := List.mem_map.mp h
 obtain ⟨h1, h2⟩ := List.mem_filter.mp hx
 have := Qar nd h1 hb e
 subst this
 simpa using h2
theorem Qii {bs : List Box} (nd : (bs.map (·.name)).Nodup) {b : Box} (hb : b ∈ bs) (h : b.name ∈ ZI hB bs) : b.kind = "pair" ∧ QaY hB b = true := by
 obtain ⟨x, hx, e⟩ := List.mem_map.mp h
 obtain ⟨h1, h2⟩ := List.mem_filter.mp hx
 have := Qar nd h1 hb e
 subst this
 have h2 : x.name ∈ hB ∧ x.kind = "pair" ∧ QaY hB x = true := by simpa using h2
 exact h2.2
theorem Qg3 (w : S.OkW) (nd : (S.boxes.map (·.name)).Nodup) {b : Box} (hb : b ∈ S.boxes) (hk : b.kind ≠ "weak") : b ∈ (S.loosened hA).boxes := by
 rw [(w.loosened).2.2.1]
 refine List.mem_map.mpr ⟨b, hb, ?_⟩
 rw [if_neg (fun z => hk (Qe3 nd hb z).1)]
theorem Qmz {hA : List Int} {ts qs : List (List Int)} (hl : ts.length = qs.length) {xs : List Int} (h : xs ∈ ts) {n : Int} (hn : n ∈ xs) : ∃ ys ∈ List.zipWith (fun t q => t ++ q.filter fun n => !decide (n ∈ hA)) ts qs, n ∈ ys := by
 obtain ⟨i, hi⟩ := List.getElem?_of_mem h
 have hlt := (List.getElem?_eq_some_iff.mp hi).1
 have hq : qs[i]? = some (qs[i]'(by omega)) := List.getElem?_eq_getElem (by omega)
 refine ⟨_, List.mem_of_getElem? (List.getElem?_zipWith_eq_some.mpr ⟨xs, _, hi, hq, rfl⟩), List.mem_append_left _ hn⟩
theorem Qg0 (w : S.OkW) (nd : (S.boxes.map (·.name)).Nodup) {n : Int} (h : QfW S b0 n) : QfW (S.loosened hA) b0 n := by
 have pk : ("plain" : Str) ≠ "weak" := by decide +kernel
 have qk : ("pair" : Str) ≠ "weak" := by decide +kernel
 induction h with
 | slot h => exact .slot (by rw [(w.loosened).2.2.2]; exact h)
 | told h h2 =>
  obtain ⟨ys, hy, m⟩ := Qmz (hA := hA) (w.q.t4.trans w.q.q4.symm) h h2
  exact .told (xs := ys) (by rw [HS.loosened_eq w.q]; exact hy) m
 | bes h => exact .bes h
 | plain hb hk _ hr ih => exact .plain (Qg3 w nd hb (by rw [hk]; exact pk)) hk ih hr
 | pairN hb hk _ h0 hn h1 ih => exact .pairN (Qg3 w nd hb (by rw [hk]; exact qk)) hk ih h0 hn h1
 | pairK hb hk _ h0 _ h1 ih ih2 => exact .pairK (Qg3 w nd hb (by rw [hk]; exact qk)) hk ih h0 ih2 h1
theorem Swept.sub (sw : Swept S b0 hA hB S') (w : S.OkW) (nd : (S.boxes.map (·.name)).Nodup) : ∀ n ∈ hA, n ∈ hB := fun n hn => (sw.b2 n).mpr (Qg0 w nd ((sw.a2 n).mp hn))
theorem Swept.boxes (sw : Swept S b0 hA hB S') : S'.boxes = (brk (ZI hB (S.loosened hA).boxes) Qih (S.loosened hA).boxes).filter fun b => decide (b.name ∈ hB) := by rw [sw.e]; rfl
theorem QhL (p : Int → Bool) (bs : List Box) : (bs.filter fun b => p b.name).map (·.name) = (bs.map (·.name)).filter p := by rw [List.filter_map]; rfl
theorem Swept.names (sw : Swept S b0 hA hB S') (w : S.OkW) : names S' = (LW.names S).filter fun n => decide (n ∈ hB) := by
 show S'.boxes.map (·.name) = _
 rw [sw.boxes, QhL fun n => decide (n ∈ hB), QeZ, ← (w.loosened (hA := hA)).2.1]
 rfl
theorem Swept.inB (sw : Swept S b0 hA hB S') (w : S.OkW) (hb : ∀ n, b0 = some n → n ∈ LW.names S) {n : Int} (h : n ∈ hB) : n ∈ LW.names S' := by
 obtain ⟨ok2, nm2, _, _⟩ := w.loosened (hA := hA)
 rw [sw.names w, List.mem_filter]
 refine ⟨?_, decide_eq_true h⟩
 rw [← nm2]
 exact ok2.held (fun n e => by rw [nm2]; exact hb n e) ((sw.b2 n).mp h)
theorem Qei {hs : List Int} {b : Box} {k : Int} (h : QaY hs b = false) (e : b.row[0]? = some (.box k)) : k ∈ hs := by
 unfold QaY at h
 rw [e] at h
 simpa using h
theorem QlH {l : List T} (h : l.length = 1) {t : T} (ht : t ∈ l) : l[0]? = some t := by
 match l, h with
 | [x], _ => rw [List.mem_singleton.mp ht]; rfl
theorem QlG {l : List T} (h : l.length = 2) {t : T} (ht : t ∈ l) : l[0]? = some t ∨ l[1]? = some t := by
 match l, h with
 | [x, y], _ =>
  rcases List.mem_cons.mp ht with z | z
  ·rw [z]; exact .inl rfl
  ·rw [List.mem_singleton.mp z]; exact .inr rfl
theorem QkF {l : List T} (h : l.length = 1) : loose l = [.non] := by
 match l, h with
 | [x], _ => rfl
theorem Qkt {l : List T} (h : l.length = 2) : Qih l = [.non, .non] := by
 match l, h with
 | [x, y], _ => rfl
theorem Swept.leadsB (sw : Swept S b0 hA hB S') (w : S.OkW) (nd : (S.boxes.map (·.name)).Nodup) {b : Box} (hb : b ∈ S'.boxes) {k : Int} (hk : .box k ∈ b.row) : k ∈ hB := by
 obtain ⟨ok2, nm2, bx2, _⟩ := w.loosened (hA := hA)
 have nd2 : ((S.loosened hA).boxes.map (·.name)).Nodup := by
  have : (S.loosened hA).boxes.map (·.name) = S.boxes.map (·.name) := nm2
  rw [this]; exact nd
 rw [sw.boxes] at hb
 obtain ⟨hb1, hb2⟩ := List.mem_filter.mp hb
 have hb2 : b.name ∈ hB := by simpa using hb2
 obtain ⟨x, hx, e⟩ := Qds hb1
 by_cases hp : x.name ∈ ZI hB (S.loosened hA).boxes
 ·rw [if_pos hp] at e
  have kd := (Qii nd2 hx hp).1
  have : b.row = [.non, .non] := by rw [e]; exact Qkt (ok2.pair x hx kd)
  rw [this] at hk
  simp at hk
 ·rw [if_neg hp] at e
  subst e
  have hh : QfW (S.loosened hA) b0 b.name := (sw.b2 _).mp hb2
  have hx' := hx
  rw [bx2] at hx'
  obtain ⟨y, hy, ey⟩ := Qds hx'
  by_cases hw : y.name ∈ Ze hA S.boxes
  ·rw [if_pos hw] at ey
   have : b.row = [.non] := by rw [ey]; exact QkF (w.weak y hy (Qe3 nd hy hw).1)
   rw [this] at hk
   simp at hk
  ·rw [if_neg hw] at ey
   subst ey
   rcases w.kd b hy with z | z | z
   ·exact (sw.b2 k).mpr (.plain hx z hh hk)
   ·have h0 := QlH (w.weak b hy z) hk
    have hl : QaY hA b = false := by
     cases e : QaY hA b with
     | false => rfl
     | true => exact absurd (List.mem_map.mpr ⟨b, List.mem_filter.mpr ⟨hy, by simp [z, e]⟩, rfl⟩) hw
    exact sw.sub w nd k (Qei hl h0)
   ·have hl : QaY hB b = false := by
     cases e : QaY hB b with
     | false => rfl
     | true => exact absurd (List.mem_map.mpr ⟨b, List.mem_filter.mpr ⟨hx, by simp [z, e, hb2]⟩, rfl⟩) hp
    have l2 := ok2.pair b hx z
    rcases QlG l2 hk with q | q
    ·exact Qei hl q
    ·obtain ⟨t0, h0⟩ : ∃ t, b.row[0]? = some t := ⟨b.row[0], List.getElem?_eq_getElem (by omega)⟩
     cases t0 with
     | non => exact (sw.b2 k).mpr (.pairN hx z hh h0 (fun k e => by cases e) q)
     | num i => exact (sw.b2 k).mpr (.pairN hx z hh h0 (fun k e => by cases e) q)
     | box j => exact (sw.b2 k).mpr (.pairK hx z hh h0 ((sw.b2 j).mp (Qei hl h0)) q)
theorem Swept.slots (sw : Swept S b0 hA hB S') (w : S.OkW) : S'.slots = S.slots := by rw [sw.e]; exact (w.loosened (hA := hA)).2.2.2
theorem Swept.queues (sw : Swept S b0 hA hB S') (w : S.OkW) : S'.queues = S.queues.map (·.filter fun n => decide (n ∈ hA)) := by
 rw [sw.e]; show (S.loosened hA).queues = _; rw [HS.loosened_eq w.q]
theorem Swept.told (sw : Swept S b0 hA hB S') (w : S.OkW) : S'.told = List.zipWith (fun t q => t ++ q.filter fun n => !decide (n ∈ hA)) S.told S.queues := by
 rw [sw.e]; show (S.loosened hA).told = _; rw [HS.loosened_eq w.q]
theorem Swept.box (sw : Swept S b0 hA hB S') (w : S.OkW) {b : Box} (hb : b ∈ S'.boxes) : ∃ y ∈ S.boxes, b.name = y.name ∧ b.kind = y.kind ∧ b.row.length = y.row.length := by
 rw [sw.boxes] at hb
 obtain ⟨x, hx, e⟩ := Qds (List.mem_filter.mp hb).1
 rw [(w.loosened (hA := hA)).2.2.1] at hx
 obtain ⟨y, hy, ey⟩ := Qds hx
 refine ⟨y, hy, ?_⟩
 have h1 : x.name = y.name ∧ x.kind = y.kind ∧ x.row.length = y.row.length := by
  rw [ey]; split
  ·exact ⟨rfl, rfl, QfD _⟩
  ·exact ⟨rfl, rfl, rfl⟩
 have h2 : b.name = x.name ∧ b.kind = x.kind ∧ b.row.length = x.row.length := by
  rw [e]; split
  ·exact ⟨rfl, rfl, QlB _⟩
  ·exact ⟨rfl, rfl, rfl⟩
 exact ⟨h2.1.trans h1.1, h2.2.1.trans h1.2.1, h2.2.2.trans h1.2.2⟩
theorem Swept.okW (sw : Swept S b0 hA hB S') (w : S.OkW) (nd : (S.boxes.map (·.name)).Nodup) (hb : ∀ n, b0 = some n → n ∈ LW.names S) : S'.OkW := by
 have heldB : ∀ {n}, QfW (S.loosened hA) b0 n → n ∈ LW.names S' := fun h => sw.inB w hb ((sw.b2 _).mpr h)
 have hlen : S'.boxes.length ≤ S.boxes.length := by
  have e1 : S'.boxes.length = (LW.names S').length := by simp [LW.names]
  have e2 : S.boxes.length = (LW.names S).length := by simp [LW.names]
  rw [e1, e2, sw.names w]
  exact List.length_filter_le _ _
 have told2 : ∀ {xs n}, xs ∈ S'.told → n ∈ xs → n ∈ LW.names S' := fun hx hn => heldB (.told (by rw [HS.loosened_eq w.q, ← sw.told w]; exact hx) hn)
 refine ⟨⟨fun b m t mt k e => ?_, fun b m hk => ?_, fun t mt k e => ?_, fun xs hx n hn => told2 hx hn, by have := w.ok.few; omega, fun b m => ?_⟩, ⟨?_, ?_, fun xs hx => ?_, fun xs hx n hn => ?_, fun g xs ys hx hy => ?_⟩, by have := w.few; omega, fun b m hk => ?_, fun b m => ?_⟩
 ·subst e
  exact sw.inB w hb (sw.leadsB w nd m mt)
 ·obtain ⟨y, hy, _, e2, e3⟩ := sw.box w m
  rw [e3]; exact w.ok.pair y hy (e2.symm.trans hk)
 ·subst e
  refine heldB (.slot ?_)
  rw [(w.loosened (hA := hA)).2.2.2, ← sw.slots w]; exact mt
 ·obtain ⟨y, hy, _, _, e3⟩ := sw.box w m
  rw [e3]; exact w.ok.eight y hy
 ·rw [sw.queues w, List.length_map]; exact w.q.q4
 ·rw [sw.told w, List.length_zipWith, w.q.q4, w.q.t4]; rfl
 ·rw [sw.queues w] at hx
  obtain ⟨q, hq, rfl⟩ := List.mem_map.mp hx
  exact (w.q.un q hq).sublist List.filter_sublist
 ·rw [sw.queues w] at hx
  obtain ⟨q, hq, rfl⟩ := List.mem_map.mp hx
  have := (List.mem_filter.mp hn).2
  exact sw.inB w hb (sw.sub w nd n (by simpa using this))
 ·rw [sw.queues w, List.getElem?_map] at hx
  rw [sw.told w] at hy
  obtain ⟨t, q, ht, hq, rfl⟩ := List.getElem?_zipWith_eq_some.mp hy
  rw [hq] at hx
  have hx : (q.filter fun n => decide (n ∈ hA)) = xs := by simpa using hx
  subst hx
  have h1 := w.q.few g q t hq ht
  have h2 := QiV (f := fun n => decide (n ∈ hA)) (g := fun n => !decide (n ∈ hA)) (fun _ => rfl) q
  rw [List.length_append]
  omega
 ·obtain ⟨y, hy, _, e2, e3⟩ := sw.box w m
  rw [e3]; exact w.weak y hy (e2.symm.trans hk)
 ·obtain ⟨y, hy, _, e2, _⟩ := sw.box w m
  rw [e2]; exact w.kd y hy
end
theorem QmW {S : HS} {n : Nat} (hn : names S = QK 1 n) (hb : ∀ b ∈ S.boxes, BOk n b) (ht : ∀ t ∈ S.slots, TOk n t) (told : S.told = e4) (h : n < 64) (q4 : S.queues.length = 4) (hq : ∀ xs ∈ S.queues, xs.Nodup ∧ xs.length ≤ 8 ∧ ∀ m ∈ xs, 1 ≤ m ∧ m ≤ (n : Int)) : S.OkW := by
 have te : ∀ xs ∈ S.told, xs = [] := fun xs hx => by rw [told] at hx; simpa [e4] using hx
 have ok : S.Ok := law_ok hn hb ht te (by omega)
 have hl : S.boxes.length = n := by
  have := congrArg List.length hn
  rw [QJ] at this
  simpa [names] using this
 refine ⟨ok, ⟨q4, by rw [told]; rfl, fun xs hx => (hq xs hx).1, fun xs hx m hm => ?_, fun g xs ys hx hy => ?_⟩, by omega, fun b hb' hk => ?_, fun b hb' => (hb b hb').kd⟩
 ·rw [hn, ZG]
  have := (hq xs hx).2.2 m hm
  omega
 ·have h1 := (hq xs (List.mem_of_getElem? hx)).2.1
  have h2 := te ys (List.mem_of_getElem? hy)
  subst h2
  simp; omega
 ·have := (hb b hb').sz
  rw [hk] at this
  have e : ZY "weak" (b.row.length : Int) = 1 := by unfold ZY; rw [if_pos rfl]
  rw [e] at this
  omega
end LW
namespace L2
open PySem PySem.Spec PyProof.Rows PySem.W
structure Qgg (X : Cx) (pins : Pn) (b : Addr) : Prop where
 new : X.s₀.heap.get? b = none
 loc : b ≠ X.env.locals
 cel : ∀ x c, X.env.cells.lookup x = some c → c ≠ b
 pin : ∀ p ∈ X.pn ++ pins, p.1 ≠ b
section
variable {X : Cx} {pins : Pn} {σ : St} {H H' : Hp} {s : Shared} {b : Addr} {h' : Heap} {P : Program} {w : World} {h : Heap} {a : Addr} {o : HO}
theorem Inv.apart (I : Inv X pins σ H s) (hx : X.ex = []) (h : s.heap.get? b = none) : Qgg X pins b := by
 refine ⟨?_, fun z => ?_, fun x c e z => ?_, fun p hp z => ?_⟩
 ·cases q : X.s₀.heap.get? b with
  | none => rfl
  | some o =>
   obtain ⟨o', e⟩ := I.base.there b o q (by rw [hx]; simp)
   rw [h] at e; cases e
 ·obtain ⟨m, ⟨o, es, ep, e, _⟩, _⟩ := I.loc
  rw [← z, h] at e; cases e
 ·obtain ⟨v, o, e', _⟩ := I.cell x c e
  rw [z, h] at e'; cases e'
 ·have := (I.pin p hp).1
  rw [z, h] at this; cases this
theorem ObjOk.there (x : ObjOk P w H h a o) : ∃ u, h.get? a = some u := by
 cases o with
 | lst xs => obtain ⟨_, _, _, _, e⟩ := x; exact ⟨_, e⟩
 | tup xs => obtain ⟨_, _, _, p⟩ := x; obtain ⟨_, e, _⟩ := p; exact ⟨_, e⟩
 | dK kvs => obtain ⟨_, _, _, _, o, _, _, e, _⟩ := x; exact ⟨_, e⟩
 | dT kvs => obtain ⟨_, _, _, _, o, _, _, e, _⟩ := x; exact ⟨_, e⟩
 | set S n => obtain ⟨o, _, _, _, e, _⟩ := x; exact ⟨_, e⟩
 | ins C dx fs => obtain ⟨_, _, _, e, _⟩ := x; exact ⟨_, e⟩
 | own y => exact x
 | xd fs => obtain ⟨_, ⟨_, _, _, e, _⟩, _⟩ := x; exact ⟨_, e⟩
 | rng lo hi => obtain ⟨_, _, _, e⟩ := x; exact ⟨_, e⟩
 | frz ob u => obtain ⟨e, _⟩ := x; exact ⟨_, e⟩
 | tbl ps => exact ⟨_, x⟩
 | met f y => exact ⟨_, x⟩
 | ext φ => exact x.2.1
theorem HOk.only (x : HOk P w H h) (k : ∀ b u, H b ≠ none → h.get? b = some u → h'.get? b = some u) : HOk P w H h' := fun a o e =>
 (x a o e).stay (fun b u hb q => k b u (by rcases hb with rfl | hb <;> simp [*]) q) (fun _ q => q) (fun _ _ q => q)
theorem Inv.flown {ch : List Addr} {t' : Nat} (I : Inv X pins σ H s) (ha : ∀ b ∈ ch, Qgg X pins b ∧ H b = none)
  (k : ∀ b o, s.heap.get? b = some o → b ∉ frs X.stack → b ∉ ch → h'.get? b = some o) (u : s.heap.UpToSlots h') : Inv X pins σ H { s with heap := h', toks := t' } := by
 have fr : ∀ b o, s.heap.get? b = some o → b ∈ frs X.stack → ∃ sl, h'.get? b = some { o with slots := sl } := fun b o q hb => by
  obtain ⟨_, o', q', hd⟩ := I.stack.mem hb
  rw [q] at q'; cases q'
  exact u b o q hd
 have old : ∀ b o, X.s₀.heap.get? b = some o → b ∉ ch := fun b o q hb => by
  have := (ha b hb).1.new
  rw [q] at this; cases this
 have sub : ∀ b o, X.s₀.heap.get? b = some o → b ∈ frs X.stack → b ∈ X.fs := fun b o q hb => by
  rcases List.mem_cons.mp (I.stkSub b hb) with e | hb
  ·have h1 := Heap.lt_size q
   have h2 := I.ok.above
   rw [← e] at h2
   exact absurd h1 (Nat.not_lt.mpr h2)
  ·exact hb
 have any : ∀ b o, s.heap.get? b = some o → b ∉ ch → ∃ sl, h'.get? b = some { o with slots := sl } := fun b o q hb => by
  by_cases hf : b ∈ frs X.stack
  ·exact fr b o q hf
  ·exact ⟨o.slots, k b o q hf hb⟩
 have cellK : ∀ x c v, X.env.cells.lookup x = some c → s.heap.IsCell c v → h'.IsCell c v := fun x c v e ⟨o, q, d⟩ => by
  obtain ⟨sl, q'⟩ := any c o q fun hb => (ha c hb).1.cel x c e rfl
  exact ⟨_, q', d⟩
 refine ⟨I.ok, I.os, I.bare, ⟨fun b o q n hf hx => ?_, fun b o q n hf hx => ?_, I.base.free, fun b o q hx => ?_, I.base.tups, I.base.frzs, I.base.tbls⟩, ?_, fun x c e => ?_, I.free, I.freeC, fun p hp => ?_, ?_, I.len⟩
 ·by_cases hb : b ∈ frs X.stack
  ·exact absurd (sub b o q hb) hf
  ·exact k b o (I.base.keep b o q n hf hx) hb (old b o q)
 ·obtain ⟨sl, q1⟩ := I.base.slot b o q n hf hx
  obtain ⟨sl', q2⟩ := any b _ q1 (old b o q)
  exact ⟨sl', q2⟩
 ·obtain ⟨o', q1⟩ := I.base.there b o q hx
  obtain ⟨sl', q2⟩ := any b _ q1 (old b o q)
  exact ⟨_, q2⟩
 ·obtain ⟨m, hn, hm⟩ := I.loc
  refine ⟨m, u.ns hn, fun i x v h1 h2 h3 => ?_⟩
  obtain ⟨z, r, l⟩ := hm i x v h1 h2 h3
  refine ⟨z, r, ?_⟩
  rcases l with l | ⟨l1, c, l2, l3⟩
  ·exact .inl l
  ·exact .inr ⟨l1, c, l2, cellK x c _ l2 l3⟩
 ·obtain ⟨v, q⟩ := I.cell x c e
  exact ⟨v, cellK x c v e q⟩
 ·obtain ⟨q, n, nl, nf, nc⟩ := I.pin p hp
  refine ⟨k _ _ q (fun hb => ?_) (fun hb => (ha _ hb).1.pin p hp rfl), n, nl, nf, nc⟩
  rcases List.mem_cons.mp (I.stkSub _ hb) with e | hb
  ·exact nl e
  ·exact nf hb
 ·refine I.hok.only fun b o hb q => k b o q (fun hf => hb (I.stkFree b hf)) fun hc => hb (ha b hc).2
structure Fly (g : Heap) (H : Hp) (h : Heap) (e C T : Addr) : Prop where
 newE : g.get? e = none
 newT : g.get? T = none
 frE : H e = none
 frT : H T = none
 ne : T ≠ e
 obj : ∃ oe vs a0 oT ts, h.get? e = some oe ∧ oe.cls = .ref C ∧ oe.data = .fields vs ∧ vs[0]? = some a0 ∧ vs[1]? = some (.ref T) ∧ h.get? T = some oT ∧ oT.data = .fields ts ∧ ts[3]? = some .none
structure Qmt (g : Heap) (H : Hp) (h : Heap) (e C : Addr) : Prop where
 newE : g.get? e = none
 frE : H e = none
 obj : ∃ oe vs a0, h.get? e = some oe ∧ oe.cls = .ref C ∧ oe.data = .fields vs ∧ vs[0]? = some a0 ∧ vs[1]? = some .none
end
def CXF (P : Program) (w : World) : CXT := fun outer H s E e s' => ∃ a C T H', e = .ref a ∧ s'.os = s.os ∧ AllBare s'.gens ∧ Un (frs outer) [] H H' s.heap s'.heap ∧ HOk P w H' s'.heap ∧ Fly s.heap H' s'.heap a C T ∧ E (.ref C) none H'
theorem FnOk.lift {CX : CXT} {k : Nat} {f : Addr} {fd : FuncData} {ps : List Str} {sp : Sp} (F : FnOk P w K mg base CX0 k f fd ps sp) : FnOk P w K mg base CX k f fd ps sp :=
 ⟨F.len, fun A outer s H args us vs Q E hr he hb hv hs => codeAny_mono (F.run A outer s H args us vs Q E hr he hb hv hs) fun r s' hq => by
  cases r with
  | error e => exact False.elim hq
  | ok fl => cases fl <;> exact hq⟩
theorem FnOk.either {CX : CXT} {k : Nat} {f : Addr} {fd : FuncData} {ps : List Str} {sp sp' : Sp} (F : FnOk P w K mg base CX k f fd ps sp) (F' : FnOk P w K mg base CX k f fd ps sp') :
  FnOk P w K mg base CX k f fd ps (fun vs H Q E => sp vs H Q E ∨ sp' vs H Q E) :=
 ⟨fun vs H Q E q => q.elim (F.len vs H Q E) (F'.len vs H Q E), fun A outer s H args us vs Q E hr he hb hv hs => hs.elim (F.run A outer s H args us vs Q E hr he hb hv) (F'.run A outer s H args us vs Q E hr he hb hv)⟩
section
variable {X : Cx} {pins : Pn} {σ : St} {H H' : Hp} {s : Shared} {b e C T : Addr} {h' : Heap}
theorem Inv.entry {B : Heap} {as : List Addr} {outer : List Env} {a0 : Value} {g : Heap} (I : Inv X pins σ H s) (hB : B = hideAll s.heap (frs X.stack ++ as)) (hl : h'.FunFrames B X.stack)
  (hg : ∀ b o, g.get? b = some o → ∃ o', s.heap.get? b = some o') (ha : ∀ b ∈ as, g.get? b = none ∧ H b = none) (hE : e ∈ as) (t : h'.TracedW B e (.ref C) a0) : ∃ T, Fly g H h' e C T := by
 obtain ⟨oe, vs, T, oT, ts, he, ⟨hc, h0⟩, hd, h1, hT, hne, hoT, hdT, h3⟩ := t
 have nas : ∀ o, s.heap.get? T = some o → T ∈ as := fun o q => by
  by_cases hm : T ∈ frs X.stack ++ as
  ·rcases List.mem_append.mp hm with hm | hm
   ·obtain ⟨_, o', q', n⟩ := hl.mem hm
    rw [hoT] at q'; cases q'
    exact absurd hdT (n ts)
   ·exact hm
  ·rw [hB, hideAll_get _ q hm] at hT; cases hT
 refine ⟨T, (ha e hE).1, ?_, (ha e hE).2, ?_, hne, oe, vs, a0, oT, ts, he, hc, hd, h0, h1, hoT, hdT, h3⟩
 ·cases q : g.get? T with
  | none => rfl
  | some o =>
   obtain ⟨o', q'⟩ := hg T o q
   have := (ha T (nas o' q')).1
   rw [q] at this; cases this
 ·cases q : H T with
  | none => rfl
  | some o =>
   obtain ⟨o', q'⟩ := (I.hok T o q).there
   have := (ha T (nas o' q')).2
   rw [q] at this; cases this
end
end L2
namespace L2
open PySem PySem.Spec PyProof.Rows PySem.W
section
variable {X : Cx} {pins : Pn} {σ : St} {H : Hp} {s : Shared} {e C T : Addr} {E : XK}
theorem QkE {l : List Env} : ∀ env ∈ l, ∀ a, env.frame = some a → a ∈ frs l := fun env he a hf => List.mem_filterMap.mpr ⟨env, he, hf⟩
theorem QkI {M : Model} {EE : Value → Shared → Prop} (I : Inv X pins σ H s) (hx : X.ex = []) (hst : X.stack = X.env :: X.outer) (hf : X.env.frame = some X.env.locals)
  (pe : Qgg X pins e) (fl : Qmt X.s₀.heap H s.heap e C ∨ ∃ T, Qgg X pins T ∧ Fly X.s₀.heap H s.heap e C T) (hE : E (.ref C) none H) :
  wpAny M X.A (leaving X.env (.ref e)) (fun _ s' => CXF X.prog X.w X.outer X.H₀ X.s₀ E (.ref e) s') EE s := by
 have hfr : X.A.frames = some (X.env :: X.outer) := by rw [I.ok.frames, hst]
 have hg : ∀ b o, X.s₀.heap.get? b = some o → ∃ o', s.heap.get? b = some o' := fun b o q => I.base.there b o q (by rw [hx]; simp)
 have fin : ∀ (as : List Addr) (h' : Heap) (a0 : Value), e ∈ as → (∀ b ∈ as, Qgg X pins b ∧ H b = none) → Heap.LeftW (hideAll s.heap (frs X.stack ++ as)) (X.env :: X.outer) e (.ref C) a0 s.heap h' →
   CXF X.prog X.w X.outer X.H₀ X.s₀ E (.ref e) { s with heap := h' } := fun as h' a0 hm ha ⟨k1, k2, k3, k4⟩ => by
  have I' : Inv X pins σ H { s with heap := h' } := Inv.flown (t' := s.toks) I ha (fun b o q n1 n2 => k1 b o (hideAll_get _ q fun z => (List.mem_append.mp z).elim n1 n2)) k4
  obtain ⟨T', fl'⟩ := Inv.entry (outer := X.outer) I rfl (by have z := k2; rw [← hst] at z; exact z) hg (fun b hb => ⟨(ha b hb).1.new, (ha b hb).2⟩) hm k3
  have un := I'.base
  rw [hx] at un
  exact ⟨e, C, T', H, rfl, I'.os, I'.bare, un, I'.hok, fl', hE⟩
 have st : ∀ as : List Addr, s.heap.FunFrames (hideAll s.heap (frs X.stack ++ as)) (X.env :: X.outer) := fun as => by
  have := I.stack
  rw [hst] at this
  exact funFrames_hide this fun env he a hf => List.mem_append_left _ (by rw [hst]; exact QkE env he a hf)
 rcases fl with ⟨n, fr, oe, vs, a0, he, hc, hd, h0, h1⟩ | ⟨T, pt, n, nT, fr, frT, ne, oe, vs, a0, oT, ts, he, hc, hd, h0, h1, hT, hdT, h3⟩
 ·refine wpAny_leaving_firstW (base := hideAll s.heap (frs X.stack ++ [e])) hfr (st _) hf he (fun b o q => of_hideAll _ q) (hideAll_none _ (by simp)) hd h1 h0 fun h' L => ?_
  rw [hc] at L
  exact fin [e] h' a0 (by simp) (fun b hb => by obtain rfl := List.mem_singleton.mp hb; exact ⟨pe, fr⟩) L
 ·refine wpAny_leaving_nextW (base := hideAll s.heap (frs X.stack ++ [e, T])) (cls := .ref C) (a0 := a0) hfr (st _) hf
   ⟨oe, vs, T, oT, ts, he, ⟨hc, h0⟩, hd, h1, hideAll_none _ (by simp), ne, hT, hdT, h3⟩ (fun b o q => of_hideAll _ q) (hideAll_none _ (by simp)) fun h' L => ?_
  exact fin [e, T] h' a0 (by simp) (fun b hb => by
   rcases List.mem_cons.mp hb with rfl | hb
   ·exact ⟨pe, fr⟩
   ·obtain rfl := List.mem_singleton.mp hb; exact ⟨pt, frT⟩) L
structure Throws (X : Cx) (E : XK) : Prop where
 ex : X.ex = []
 xe : ∀ (pins : Pn) (σ : St) (H : Hp) (s : Shared) (e C : Addr), Inv X pins σ H s → Qgg X pins e → (Qmt X.s₀.heap H s.heap e C ∨ ∃ T, Qgg X pins T ∧ Fly X.s₀.heap H s.heap e C T) → E (.ref C) none H → X.xe (.ref e) s
theorem Throws.passes {E' : XK} (t : Throws X E) (h : ∀ C H, E' (.ref C) none H → E (.ref C) none H) : QeA (CXF X.prog X.w) X E' := by
 intro pins σ H s e s' I hc
 obtain ⟨a, C, T, H', rfl, os, bare, un, hok, fl, q⟩ := hc
 have I' := I.call' (ch := []) os un hok bare (fun b z => absurd z (by simp))
 have pe := I.apart t.ex fl.newE
 have pT := I.apart t.ex fl.newT
 exact t.xe pins σ H' s' a C I' pe (.inr ⟨T, pT, pe.new, pT.new, fl.frE, fl.frT, fl.ne, fl.obj⟩) (h _ _ q)
end
theorem Ql {N : List Str} {qual : Str} {scope : Scope} {f : Addr} {cd : Value} {A : Around} {outer : List Env} {s : Shared} {H : Hp} {E : XK} :
  Throws (Qli (CXF P w) P w K mg base N qual scope f cd A outer s H E) E :=
 ⟨rfl, fun _ _ _ _ _ _ I pe fl hE => QkI I rfl rfl rfl pe fl hE⟩
theorem QkY {K : Frag} {h : Heap} {C : Addr} {bmB : List Value} {newId : String} (X : K.In h) (q : excIn K C bmB newId = true) :
  ∃ bm N nm qn bs hdct sn sub ab col dd k0 k1 k2 k3 k5 mN, h.get? C = some (excClassObj nm qn C N bs bm hdct sn sub ab col dd k0 k1 k2 k3 k5 newId) ∧ h.Ns N mN ∧ mN "__init__" = none ∧ OwnTail h bmB bm := by
 unfold excIn at q
 split at q
 ·rename_i dd cd sl ho
  split at q
  ·rename_i C' bm k0 k1 k2 k3 n k5 hm hs
   simp only [Bool.and_eq_true, beq_iff_eq, Bool.not_eq_true'] at q
   obtain ⟨⟨⟨⟨⟨rfl, rfl⟩, hdel⟩, ht⟩, hok⟩, hni⟩ := q
   obtain ⟨nm, bs, mro, ns, qn, hd, sn, sub, ab, col, del⟩ := cd
   dsimp only at hm hdel hok hni
   subst hm hdel
   have hsl : sl = #[k0, k1, k2, k3, some (.builtin n), k5] := by
    obtain ⟨l⟩ := sl
    simp only at hs
    rw [hs]
   subst hsl
   exact ⟨bm, ns, nm, qn, bs, hd, sn, sub, ab, col, dd, k0, k1, k2, k3, k5, _, X _ _ ho, .of_isNs (isNs_of_in X hok), nsMap_none_of_in X hok hni, tail_of_in X ht⟩
  ·cases q
 ·cases q
def Exc (K : Frag) (C : Addr) : Prop := excIn K C [.type "ValueError", .type "Exception", .type "BaseException", .type "object"] "ValueError.__new__" = true
def tRaise (C : Addr) (E : XK) (t : TA) : TS := fun _ σ H => t σ H fun vs H1 => vs.length ≤ sizeLine ∧ E (.ref C) none H1
section
variable {X : Cx} {E : XK} {C : Addr} {x : Str} {np cpos pos : Pos} {e : Expr} {es : List Expr} {t : TA}
theorem QeY (tx : Throws X E) (hd : X.calm = true) (hg : Gl X x) (hm : X.mg x = some (.ref C)) (hC : Exc X.K C) (ha : PA X (e :: es) t) (hdb : (x == ("__debug__" : Str)) = false := by decide)
  (he : starEach (e :: es) X.env = (false, eval e X.env) :: starEach es X.env := by rfl) (hpl : (backTo cpos (starEach es X.env)).any (·.1) = false := by rfl) :
  PS X (.Raise (some (.Call (.Name x np) (e :: es) [] cpos)) none pos) (tRaise C E t) := by
 intro pins s σ H D I h
 obtain ⟨bm, N, nm, qn, bs, hdct, sn, sub, ab, col, dd, k0, k1, k2, k3, k5, mN, hc, hn, hni, tl⟩ := QkY I.ok.mod.kin hC
 have hpl' : (backTo cpos (starEach (e :: es) X.env)).any (·.1) = false := by
  rw [he]; show (false || (backTo cpos (starEach es X.env)).any (·.1)) = false; rw [hpl]; rfl
 refine wpAny_Raise_call_subU PySem.F.excBase_ValueError (by decide +kernel) PySem.F.excBase_ValueError (nm := nm) (q := qn) (C := C) (N := N) (bs := bs) (bm := bm) (hdct := hdct) (sn := sn) (sub := sub) (ab := ab) (col := col) (dd := dd) (k0 := k0) (k1 := k1) (k2 := k2) (k3 := k3) (k5 := k5) (mN := mN) (tl.hasType (by decide +kernel)) (I.ok.hd hd) hpl' hni ?_
 refine Qej I hg hm ⟨rfl, ?_⟩ hdb
 have q := ha cpos pins s σ H _ I h
 rw [he] at q ⊢
 refine Calls.evalArgs_plain (thn q fun us s1 ⟨vs, H1, I1, r, z, q1⟩ => ?_)
 refine ⟨rfl, by rw [← r.length]; exact z, I1.bk _ _ hc, hn.keeps I1.bk, tl.keeps I1.bk, fun h' a hm' => ?_⟩
 have I2 : Inv X pins σ H1 { s1 with heap := h' } := I1.kept (t' := s1.toks) hm'.keeps
 have pa := I1.apart tx.ex hm'.new
 obtain ⟨tp, ht, _, _⟩ := hm'.there
 refine tx.xe pins σ H1 _ a C I2 pa (.inl ⟨pa.new, ?_, _, _, .ref tp, ht, rfl, rfl, rfl, rfl⟩) q1
 cases w : H1 a with
 | none => rfl
 | some o =>
  obtain ⟨u, e'⟩ := (I1.hok a o w).there
  rw [hm'.new] at e'; cases e'
end
theorem Fun.okX {x qual : Str} {st : Stmt} {f : Addr} {fd : FuncData} {N ps : List Str} {k : Nat} {sp : Sp} (F : Fun K x qual st f fd) (S : Qm N ps (Qg st)) (len : ∀ vs H Q E, sp vs H Q E → vs.length = ps.length)
  (hbody : ∀ (cdv : Value) (A : Around) (outer : List Env) (s : Shared) (H : Hp) (vs : List V) (Q : VK) (E : XK), Room k (A.deeper (envOfC qual (Qg st) s.heap.objs.size f cdv)) → sp vs H Q E →
   ∃ t, PSs (Qli (CXF P w) P w K mg base N qual (Qg st) f cdv A outer s H E) (Qr st) t ∧ t { nx := fun _ H' => Q .non H', rt := Q } (start N vs) H) : FnOk P w K mg base (CXF P w) (k + 1) f fd ps sp := by
 obtain ⟨oc, od, kV, doc, pm, an, cdv, ct, osl, rfl, lk, hcd⟩ := F.ex
 exact QlQ lk hcd S len fun A outer s H vs Q E hr hsp => hbody cdv A outer s H vs Q E hr hsp
end L2
namespace L2
open PySem PySem.Spec PyProof.Rows PySem.W
section
variable {X : Cx} {pins : Pn} {σ : St} {H : Hp} {s : Shared} {a : Addr} {o : HO} {h' : Heap}
theorem Inv.track (I : Inv X pins σ H s) (hn : H a = none) (pa : Qgg X pins a) (new : ObjOk X.prog X.w (upd H a o) s.heap a o) : Inv X pins σ (upd H a o) s := by
 have ne : ∀ {b : Addr} {u : HO}, H b = some u → b ≠ a := fun e => Qf e hn
 have old : ∀ b u, X.s₀.heap.get? b = some u → b ≠ a := fun b u q z => by rw [z, pa.new] at q; cases q
 refine ⟨I.ok, I.os, I.bare, ⟨I.base.keep, I.base.slot, fun b u q n hx => ?_, I.base.there, fun b xs q => ?_, fun b u v q => ?_, fun b ps q => ?_⟩, I.loc, I.cell, ?_, fun x c e => ?_, fun p hp => ?_, fun b u q => ?_, I.len⟩
 ·rw [Qh (old b u q)]; exact I.base.free b u q n hx
 ·have := I.base.tups b xs q
  rw [Qh (ne this)]; exact this
 ·have := I.base.frzs b u v q
  rw [Qh (ne this)]; exact this
 ·obtain ⟨m, e⟩ := I.base.tbls b ps q
  exact ⟨m, by rw [Qh (ne e)]; exact e⟩
 ·rw [Qh pa.loc.symm]; exact I.free
 ·rw [Qh (pa.cel x c e)]; exact I.freeC x c e
 ·obtain ⟨q, n, r⟩ := I.pin p hp
  exact ⟨q, by rw [Qh (pa.pin p hp)]; exact n, r⟩
 ·by_cases z : b = a
  ·subst z
   rw [Qd] at q
   cases q
   exact new
  ·rw [Qh z] at q
   exact (I.hok b u q).stay (fun _ _ _ q => q) (fun c q => by rw [Qh (ne q)]; exact q) (fun c xs q => by rw [Qh (ne q)]; exact q)
theorem Inv.unbound {i : Nat} {n : Str} {m : Str → Option Value} {u : Option Value} (I : Inv X pins σ H s) (hN : X.N.Nodup) (hi : X.N[i]? = some n) (hl : X.env.kindOf n = some .local) (hn : s.heap.Ns X.env.locals m)
  (hn' : h'.Ns X.env.locals (fun x => if x = n then u else m x)) (hs : Heap.SameBut X.env.locals s.heap h') : Inv X pins (σ.set i none) H { s with heap := h' } := by
 have old : ∀ b o, X.s₀.heap.get? b = some o → b ≠ X.env.locals := fun b o q z => by
  have h1 := Heap.lt_size q
  rw [z] at h1
  exact absurd h1 (Nat.not_lt.mpr I.ok.above)
 refine ⟨I.ok, I.os, I.bare, ⟨fun b o q n hf hx => ?_, fun b o q n hf hx => ?_, I.base.free, fun b o q hx => ?_, I.base.tups, I.base.frzs, I.base.tbls⟩, ⟨_, hn', fun k x v h1 h2 h3 => ?_⟩, fun x c e => ?_, I.free, I.freeC, fun p hp => ?_, ?_, ?_⟩
 ·exact (hs.2 b (old b o q)).trans (I.base.keep b o q n hf hx)
 ·obtain ⟨sl, e⟩ := I.base.slot b o q n hf hx
  exact ⟨sl, (hs.2 b (old b o q)).trans e⟩
 ·obtain ⟨o', e⟩ := I.base.there b o q hx
  exact ⟨o', (hs.2 b (old b o q)).trans e⟩
 ·have hk : i ≠ k := fun z => by
   subst z
   rw [List.getElem?_set_self' ] at h2
   cases hz : σ[i]? <;> rw [hz] at h2 <;> cases h2
  rw [List.getElem?_set_ne hk] at h2
  have hx : x ≠ n := fun z => by subst z; exact hk (QgY hN hi h1)
  obtain ⟨m0, hn0, hm0⟩ := I.loc
  obtain ⟨z, r, l⟩ := hm0 k x v h1 h2 h3
  refine ⟨z, r, ?_⟩
  have hmm : m0 x = m x := by
   obtain ⟨o1, es1, ep1, a1, b1, _, c1⟩ := hn0
   obtain ⟨o2, es2, ep2, a2, b2, _, c2⟩ := hn
   rw [a1] at a2; cases a2
   rw [b1] at b2; cases b2
   rw [← c1, ← c2]
  rcases l with ⟨l1, l2⟩ | ⟨l1, c, l2, l3⟩
  ·exact .inl ⟨l1, by show (if x = n then u else m x) = some z; rw [if_neg hx, ← hmm]; exact l2⟩
  ·exact .inr ⟨l1, c, l2, l3.sameBut hs (I.cne x c l2)⟩
 ·obtain ⟨v, q⟩ := I.cell x c e
  exact ⟨v, q.sameBut hs (I.cne x c e)⟩
 ·obtain ⟨q, n, nl, r⟩ := I.pin p hp
  exact ⟨(hs.2 _ nl).trans q, n, nl, r⟩
 ·exact I.hok.only fun b o hb q => (hs.2 b fun z => hb (by rw [z]; exact I.free)).trans q
 ·rw [List.length_set]; exact I.len
def Qmu (a C : Addr) : HO := .ext fun h => ∃ o, h.get? a = some o ∧ o.cls = .ref C
def xeC (X : Cx) (E : XK) (pins : Pn) (σ : St) (e : Value) (s : Shared) : Prop :=
 ∃ a C T H, e = .ref a ∧ Inv X pins σ H s ∧ Qgg X pins a ∧ Qgg X pins T ∧ Fly X.s₀.heap H s.heap a C T ∧ E (.ref C) none H
def PEX (X : Cx) (E : XK) (e : Expr) (t : TE) : Prop :=
 ∀ (pins : Pn) (s : Shared) (σ : St) (H : Hp) (Q : VK), Inv X pins σ H s → t σ H Q → wpAny (model X.prog X.w) X.A (eval e X.env) (EP X pins σ Q) (xeC X E pins σ) s
def PX (X : Cx) (E : XK) (st : Stmt) (t : TS) : Prop :=
 ∀ (pins : Pn) (s : Shared) (σ : St) (H : Hp) (D : QjL), Inv X pins σ H s → t D σ H → wpAny (model X.prog X.w) X.A (exec st X.env) (SP X pins D) (xeC X E pins σ) s
def PXs (X : Cx) (E : XK) (st : List Stmt) (t : TS) : Prop :=
 ∀ (pins : Pn) (s : Shared) (σ : St) (H : Hp) (D : QjL), Inv X pins σ H s → t D σ H → wpAny (model X.prog X.w) X.A (execs st X.env) (SP X pins D) (xeC X E pins σ) s
end
section
variable {X : Cx} {CX : CXT} {k : Nat} {f C : Addr} {fd : FuncData} {ps : List Str} {sp : Sp} {dvs : List V} {ds : List Value} {E : XK} {x m : Str} {p pos apos : Pos} {e o : Expr} {es : List Expr} {ta te : TE} {t : TA} {tt : TT} {st : Stmt} {sts sts' : List Stmt} {ts us : TS}
theorem Qmv {pins : Pn} {σ : St} {H : Hp} {s s' : Shared} {v : Value} (hx : X.ex = []) (I : Inv X pins σ H s) (h : CXF X.prog X.w X.stack H s E v s') : xeC X E pins σ v s' := by
 obtain ⟨a, C, T, H', rfl, os, bare, un, hok, fl, q⟩ := h
 have I' := I.call' (ch := []) os un hok bare (fun b z => absurd z (by simp))
 have pe := I.apart hx fl.newE
 have pT := I.apart hx fl.newT
 exact ⟨a, C, T, H', rfl, I', pe, pT, ⟨pe.new, pT.new, fl.frE, fl.frT, fl.ne, fl.obj⟩, q⟩
theorem QmK {pins : Pn} {σ : St} {H : Hp} {s : Shared} {Q : VK} {us : List Value} {vs : List V} (F : FnOk X.prog X.w X.K X.mg X.base (CXF X.prog X.w) k f fd ps sp) (hr : Room k X.A) (hb : Binds X.K fd ps ds) (hd : Vals dvs ds) (hx : X.ex = [])
  (I : Inv X pins σ H s) (r : Vals vs us) (h : sp (vs ++ dvs) H Q E) : wpAny (model X.prog X.w) X.A (call (.ref f) us) (EP X pins σ Q) (xeC X E pins σ) s := by
 have r2 : Vals (vs ++ dvs) (us ++ ds) := r.append hd
 have hl : (us ++ ds).length = ps.length := by rw [← r2.length]; exact F.len _ _ _ _ h
 refine wpAny_call (codeAny_mono (F.run X.A X.stack s H ⟨us, []⟩ (us ++ ds) (vs ++ dvs) Q E hr I.env0 (hb s us I.kIn hl) r2 h) fun r s' hq => ?_)
 cases r with
 | error e => exact Qmv hx I hq
 | ok fl =>
  cases fl with
  | ret u => exact I.after hq
  | next => exact False.elim hq
  | brk => exact False.elim hq
  | cont => exact False.elim hq
theorem pa_nox {pins : Pn} {s : Shared} {σ : St} {H : Hp} {Q : List V → Hp → Prop} {EE : Value → Shared → Prop} (ha : PA X.nox es t) (I : Inv X pins σ H s) (h : t σ H Q) : wpAny (model X.prog X.w) X.A (spliced (backTo pos (starEach es X.env))) (AP X pins σ Q) EE s :=
 wpAny_mono (ha pos pins s σ H Q (I.wish _) h) (fun _ _ ⟨v, H', I', r, q⟩ => ⟨v, H', I'.unwish, r, q⟩) fun _ _ z => False.elim z
theorem QiT (F : FnOk X.prog X.w X.K X.mg X.base (CXF X.prog X.w) k f fd ps sp) (hr : Room k X.A) (hg : Gl X x) (hm : X.mg x = some (.ref f)) (hk : PySem.W.keepIn X.K (.ref f) = true) (hb : Binds X.K fd ps ds) (hd : Vals dvs ds) (hx : X.ex = [])
  (ha : PA X.nox (e :: es) t) (hdb : (x == ("__debug__" : Str)) = false := by decide) (he : starEach (e :: es) X.env = (false, eval e X.env) :: starEach es X.env := by rfl) (hpl : (backTo pos (starEach es X.env)).any (·.1) = false := by rfl) :
  PEX X E (.Call (.Name x p) (e :: es) [] pos) (Qlp sp dvs E t) := by
 intro pins s σ H Q I h
 refine wpAny_Call_Name_kw (Qej I hg hm ?_ hdb)
 refine PySem.W.callWith_K (h₀ := X.base) I.ok.mod.kin hk (thn (pa_nox ha I h) fun us s1 ⟨vs, H1, I1, r, q⟩ => ⟨I1.kIn, ?_⟩) he hpl
 exact QmK F hr hb hd hx I1 r q
theorem Qkl (he : PEX X E e te) (hs : swapsWith e none pos.line X.env = pure false := by rfl) : PX X E (.Expr e pos) (tDrop te) := by
 intro pins s σ H D I h
 exact wpAny_Expr_any (thn (he pins s σ H _ I h) fun v s1 ⟨x, H1, I1, r1, q1⟩ => ⟨σ, H1, I1, q1⟩) I.quiet hs
def tSeqX (t u : TS) : TS := fun D σ H => t { D with nx := fun σ' H' => σ' = σ ∧ u D σ H' } σ H
theorem Qlu (h1 : PX X E st ts) (h2 : PXs X E sts us) : PXs X E (st :: sts) (tSeqX ts us) := by
 intro pins s σ H D I h
 refine wpAny_execs_cons (thn (h1 pins s σ H _ I h) fun f s1 q => ?_)
 cases f with
 | next =>
  obtain ⟨σ', H', I', rfl, q⟩ := q
  exact h2 pins s1 _ H' D I' q
 | ret v => exact q
 | brk => exact q
 | cont => exact q
theorem QmO (h1 : PX X E st ts) : PXs X E [st] ts := by
 intro pins s σ H D I h
 refine wpAny_execs_cons (thn (h1 pins s σ H D I h) fun f s1 q => ?_)
 cases f with
 | next => exact wpAny_execs_nil q
 | ret v => exact q
 | brk => exact q
 | cont => exact q
end
def tTry (i j : Nat) (E : XK) (tb : TS) : TS := fun D σ H => tb D σ H ∧ ∀ a C H', H' a = none → E (.ref C) none H' → D.nx (((σ.set i (some (.ref a))).set j (some (.ref a))).set i none) (upd H' a (Qmu a C))
section
variable {X : Cx} {E : XK} {i j : Nat} {x n y : Str} {HE : Addr} {body : List Stmt} {tb : TS} {xp yp np ap hp pos : Pos}
theorem ps_try (hex : X.ex = []) (hst : X.stack = X.env :: X.outer) (hf : X.env.frame = some X.env.locals) (hN : X.N.Nodup) (hi : X.N[i]? = some n) (hj : X.N[j]? = some y) (hij : i ≠ j)
  (ln : X.env.scope.names.lookup n = some .local) (ly : X.env.scope.names.lookup y = some .local) (hg : Gl X x) (hm : X.mg x = some (.ref HE)) (hE : ∀ C H, E (.ref C) none H → exmOne X.K (.ref C) (.ref HE) = some true)
  (hb : PXs X E body tb) (hs : swapsWith (.Name n np) (some (.Name y yp)) ap.line X.env = pure false := by rfl) (hdb : (x == ("__debug__" : Str)) = false := by decide) (hdn : (n == ("__debug__" : Str)) = false := by decide) :
  PS X (.Try body [.ExceptHandler (some (.Name x xp)) (some n) [.Assign [.Name y yp] (.Name n np) ap] hp] [] [] pos) (tTry i j E tb) := by
 intro pins s σ H D I h
 obtain ⟨hq, hc⟩ := h
 refine wpAny_Try_except (wpAny_mono (hb pins s σ H D I hq) (fun f s1 q => ?_) fun v s1 q => ?_)
 ·cases f with
  | next => exact wpAny_execs_nil q
  | ret v => exact q
  | brk => exact q
  | cont => exact q
 ·obtain ⟨a, C, T, H', rfl, I1, pa, pT, ⟨nE, nT, fE, fT, ne, oe, vs, a0, oT, ts, he, hcl, hd, h0, h1, hT, hdT, h3⟩, hq1⟩ := q
  have hfr : X.A.frames = some (X.env :: X.outer) := by rw [I1.ok.frames, hst]
  have flW : Heap.FlyingW (hideAll s1.heap (frs X.stack ++ [a, T])) (X.env :: X.outer) a (.ref C) a0 s1.heap := by
   have st := I1.stack
   rw [hst] at st
   exact ⟨fun b o q => of_hideAll _ q, hideAll_none _ (by simp), funFrames_hide st fun env he a hf => List.mem_append_left _ (by rw [hst]; exact QkE env he a hf),
    oe, vs, T, oT, ts, he, ⟨hcl, h0⟩, hd, h1, hideAll_none _ (by simp), ne, hT, hdT, h3⟩
  have inv : ∀ (h' : Heap) (t' : Nat), (hideAll s1.heap (frs X.stack ++ [a, T])).StaysIn h' → s1.heap.UpToSlots h' → Inv X pins σ H' { s1 with heap := h', toks := t' } := fun h' t' k u =>
   Inv.flown (ch := [a, T]) I1 (fun b hb => by
    rcases List.mem_cons.mp hb with rfl | hb
    ·exact ⟨pa, fE⟩
    ·obtain rfl := List.mem_singleton.mp hb; exact ⟨pT, fT⟩) (fun b o q n1 n2 => k b o (hideAll_get _ q fun z => (List.mem_append.mp z).elim n1 n2)) u
  refine wpAny_looks_onW hfr hf flW fun h4 held4 u4 => wpAny_landsW (s := { s1 with heap := h4 }) held4 fun h5 fl5 u5 => ?_
  have I5 := inv h5 s1.toks fl5.1 (u4.trans u5)
  obtain ⟨ob, hob, hobc⟩ := fl5.there
  refine wpAny_handleBy_cons (codeAny_handlers_test ?_) (by intro q; cases q)
  refine Calls.Name_function_global I5.ok.kind hg (Calls.loadGlobal_global (by rw [I5.ok.glob]; exact I5.mod.glob.keeps I5.bk) hm ?_) hdb
  have LT : Looks (model X.prog X.w) h5 (typeOf (.ref a)) (.ref C) := by
   rw [← hobc]
   exact (Looks.ld hob).andThen .now
  refine (exm_one (M := model X.prog X.w) I5.kIn LT (hE C H' hq1)).here ?_
  refine codeAny_handlers_suite_as (lands_againW fl5 fun h6 fl6 u6 => ?_)
  have I6 : Inv X pins σ (upd H' a (Qmu a C)) { s1 with heap := h6 } := by
   refine (inv h6 s1.toks fl6.1 ((u4.trans u5).trans u6)).track fE pa ?_
   obtain ⟨o6, e6, c6⟩ := fl6.there
   exact ⟨⟨o6, e6, c6⟩, ⟨o6, e6⟩, fun h1 h2 ⟨o, q, c⟩ k => ⟨o, k o q, c⟩⟩
  refine Qbh I6 hN hi (.inl ln) (v := .ref a) rfl (fun s7 I7 => ?_) (.inr ln)
  have hil : i < σ.length := by rw [I1.len]; exact (List.getElem?_eq_some_iff.mp hi).1
  obtain ⟨m7, hn7, hm7⟩ := id I7.loc
  obtain ⟨u7, r7, l7⟩ := hm7 i n (.ref a) hi (by rw [List.getElem?_set_self hil]) (.inl ln)
  obtain rfl : u7 = Value.ref a := r7
  have l7' : m7 n = some (.ref a) := by
   rcases l7 with l | ⟨l | l, _⟩
   ·exact l.2
   ·rw [show X.env.kindOf n = some .local from ln] at l; cases l
   ·rw [show X.env.kindOf n = some .local from ln] at l; cases l
  refine wpAny_execs_cons (wpAny_Assign_Name (wpAny_Name (wpAny_loadName_local I7.ok.kind ln hn7 l7' ?_) hdn) hs)
  refine Qbh I7 hN hj (.inl ly) (v := .ref a) rfl (fun s8 I8 => ?_) (.inr ly)
  refine wpAny_execs_nil ?_
  show wpAny _ X.A (do bindName X.env n .none; unbindBehindTheSuite X.env n hp) _ _ s8
  refine wpAny_bind (wpAny_bindName (Qbh I8 hN hi (.inl ln) (v := .non) rfl (fun s9 I9 => ?_) (.inr ln)))
  obtain ⟨m9, hn9, hm9⟩ := id I9.loc
  have hil9 : i < ((σ.set i (some (V.ref a))).set j (some (V.ref a))).length := by rw [List.length_set, List.length_set]; exact hil
  obtain ⟨u9, r9, l9⟩ := hm9 i n .non hi (by rw [List.getElem?_set_self hil9]) (.inl ln)
  have l9' : m9 n = some u9 := by
   rcases l9 with l | ⟨l | l, _⟩
   ·exact l.2
   ·rw [show X.env.kindOf n = some .local from ln] at l; cases l
   ·rw [show X.env.kindOf n = some .local from ln] at l; cases l
  unfold unbindBehindTheSuite
  refine wpAny_onRaise (wpAny_unbindName_local ln hn9 l9' (by rw [I9.ok.kind]; rfl) fun h' u hn' hs' => ?_)
  have I10 := I9.unbound hN hi ln hn9 hn' hs'
  rw [List.set_set] at I10
  exact ⟨_, _, I10, hc a C H' fE hq1⟩
end
end L2
namespace L2
open PySem PySem.Spec PyProof.Rows PySem.W
abbrev TJ := Nat → St → Hp → (Hp → Prop) → Prop
def PJ (X : Cx) (es : List Expr) (t : TJ) : Prop :=
 ∀ (pins : Pn) (s : Shared) (σ : St) (H : Hp) (Q : Hp → Prop) (out : Str) (n : Nat), Inv X pins σ H s → out.length ≤ n → t n σ H Q →
  wpAny (model X.prog X.w) X.A (joinParts out (evalEach es X.env)) (EP X pins σ fun v H' => (∃ y, v = .str y) ∧ Q H') X.xe s
def jNil : TJ := fun n _ H Q => n ≤ sizeLine ∧ Q H
def jStr (k : Nat) (t : TJ) : TJ := fun n σ H Q => n + k ≤ sizeLine ∧ t (n + k) σ H Q
def jInt (te : TE) (t : TJ) : TJ := fun n σ H Q => n + 2000 ≤ sizeLine ∧ te σ H fun v H1 => ∃ i, v = .int i ∧ i.natAbs.log2 < 1900 ∧ t (n + 2000) σ H1 Q
def tFS (t : TJ) : TE := fun σ H Q => t 0 σ H fun H' => ∀ y, Q (.str y) H'
section
variable {X : Cx} {e v₁ v₂ : Expr} {es Qkk : List Expr} {te : TE} {t : TJ} {x : Str} {j pos pos'}
theorem QiR : PJ X [] jNil := fun pins s σ H Q out n I ho h =>
 joinParts_nil (show EP X pins σ _ (.str out s.toks) { s with toks := s.toks + 1 } from ⟨.str out, H, I.tok _, ⟨_, rfl⟩, ⟨out, rfl⟩, h.2⟩) (Nat.le_trans ho h.1)
theorem Qhx (h : PJ X es t) : PJ X (.Constant (.str x) j pos :: es) (jStr x.length t) := by
 intro pins s σ H Q out n I ho hq
 refine joinParts_cons (Calls.Constant_str ?_)
 have hl : (out ++ x).length ≤ n + x.length := by rw [strLen_append]; omega
 exact ⟨Nat.le_trans hl hq.1, h pins _ σ H Q _ _ (I.tok _) hl hq.2⟩
theorem Qhy (he : PE X e te) (h : PJ X es t) : PJ X (.FormattedValue e (-1) none pos :: es) (jInt te t) := by
 intro pins s σ H Q out n I ho hq
 refine joinParts_cons (FormattedValue_plain (thn (he pins s σ H _ I hq.2) fun v s1 ⟨y, H1, I1, r, i, e1, hi, q⟩ => ?_))
 subst e1
 obtain ⟨tk, rfl⟩ := (show ∃ t, v = Value.int i t from r)
 refine formatField_int_small (by omega) ?_
 have hl : (out ++ Str.ofString (toString i)).length ≤ n + 2000 := by
  have := int_text_length_le (k := 1900) (by decide) hi
  rw [strLen_append, PySem.ofString_length]
  omega
 exact ⟨Nat.le_trans hl hq.1, h pins _ σ H1 Q _ _ (I1.tok _) hl q⟩
theorem QgL (h : PJ X (v₁ :: v₂ :: Qkk) t) : PE X (.JoinedStr (v₁ :: v₂ :: Qkk) pos) (tFS t) := fun pins s σ H Q I hq =>
 JoinedStr_many (thn (h pins s σ H _ Str.empty 0 I (Nat.le_refl _) hq) fun u s1 ⟨v, H1, I1, r, ⟨y, e⟩, q⟩ => ⟨v, H1, I1, r, by rw [e]; exact q y⟩)
end
end L2
namespace L2
open PySem PySem.Spec PyProof.Rows PySem.W PySem.Builtin.ObjectAttr PySem.Builtin.Getset_descriptor
structure ExcI (K : Frag) (C : Addr) : Prop where
 ga : findIn K (.ref C) "__getattribute__" = some (some (.builtin "BaseException.__getattribute__"))
 gt : findIn K (.ref C) "__getattr__" = some none
 sub : subIn K (.ref C) (.type "BaseException") = some true
 fd : findIn K (.ref C) "__class__" = some (some (.builtin "object.__class__"))
 get : specialIn K (.builtin "object.__class__") "__get__" = some (some (.builtin "getset_descriptor.__get__"))
 take : takesIn K (.builtin "object.__class__") = some true
 mro : mroIn K C (.type "object") = some true
 cl : (clsIn K C).isSome = true
def IsX (x C : Addr) (h : Heap) : Prop := ∃ o, h.get? x = some o ∧ o.cls = .ref C
section
variable {prog : Program} {w : World} {A : Around} {E : Value → Shared → Prop} {s : Shared} {K : Frag} {x C : Addr} {M : Model}
theorem IsX.ty {h : Heap} (I : IsX x C h) : Looks M h (typeOf (.ref x)) (.ref C) := by
 obtain ⟨o, h1, h2⟩ := I
 exact h2 ▸ (Looks.ld h1).andThen .now
theorem Qlk {tp : Value} {R : Result → Shared → Prop} (X : K.In s.heap) (I : IsX x C s.heap) (hm : mroIn K C (.type "object") = some true)
  (h : R (.ok (.ret (.ref C))) s) : codeAny (model prog w) A (.call (.builtin "getset_descriptor.__get__") ⟨[.builtin "object.__class__", .ref x, tp], []⟩) R s := by
 obtain ⟨hh, g, dr, t, os⟩ := s
 have L0 := I.ty (M := model prog w)
 have L1 := looks_mroIn (M := model prog w) X hm
 refine codeAny_call_builtin KF.slot_gs.plain KF.entry_gs (KF.slot_gs.check _ _ _ _ _ _ _ _ KF.type_class (KF.args_gs _ _ _) ?_)
 unfold Builtin.«getset_descriptor.__get__» descrGet
 rw [dga_obj]
 refine wpAny_bind (wpAny_pure ?_)
 unfold descrGetter descrCheckInstance descrNameAndClass isInstance
 simp only [KF.owner_class]
 repeat lk
 refine ⟨Code.quiet_builtin _ (by decide +kernel), codeAny_builtin KF.entry_class ?_⟩
 unfold Builtin.«object.__class__» shownTypeOf
 repeat lk
 exact h
theorem QjM {h : Heap} (X : K.In h) (c : ExcI K C) : Looks M h (find (.ref x) (.ref C) "__class__") (.bind (.builtin "getset_descriptor.__get__") (.builtin "object.__class__")) := by
 have L1 := looks_findIn (M := M) X c.fd
 have L2 : Looks M h (getOf (some (.builtin "object.__class__"))) (some (.builtin "getset_descriptor.__get__")) := looks_specialIn X c.get
 have L3 := looks_takesIn (M := M) X c.take
 refine L1.andThen (L2.andThen ?_)
 have L4 : Looks M h (dataDescriptor? (some (.builtin "object.__class__")) (some (.builtin "getset_descriptor.__get__"))) (some (.builtin "getset_descriptor.__get__", .builtin "object.__class__")) := L3.andThen .now
 exact L4.andThen (Looks.tag .now)
theorem Qjb {tk : Tok} {Q : Fin → Shared → Prop} (X : K.In s.heap) (I : IsX x C s.heap) (c : ExcI K C) (hq : Q (.done (.ret (.ref C))) s) :
  wpAny (model prog w) A (Builtin.«object.__getattribute__» ⟨[.ref x, .str "__class__" tk], []⟩) Q E s := by
 obtain ⟨hh, gg, d, t, os⟩ := s
 have L0 := I.ty (M := model prog w)
 have L1 := QjM (M := model prog w) (x := x) X c
 unfold Builtin.«object.__getattribute__»
 refine wpAny_bind (wpAny_pure ?_)
 refine wpAny_bind (wpAny_pure ?_)
 refine wpAny_bind (L0.at (wpAny_bind (L1.at ?_)))
 show wpAny _ _ (holding [_] (call (.builtin "getset_descriptor.__get__") [.builtin "object.__class__", .ref x, .ref C]) >>= ret) _ _ _
 exact wpAny_bind (wpAny_holding (wpAny_call (Qlk (s := ⟨hh, gg, d, t, os⟩) X I c.mro (wpAny_pure hq))))
theorem Qjc {nameV : Value} {Q : Unit → Shared → Prop} (X : K.In s.heap) (I : IsX x C s.heap) (c : ExcI K C) (hq : Q () s) :
  wpAny M A (checkBuiltinCall "BaseException.__getattribute__" ⟨[.ref x, nameV], []⟩) Q E s := by
 obtain ⟨hh, gg, d, t, os⟩ := s
 have hk : builtinKind "BaseException.__getattribute__" = some .slot := by decide +kernel
 have hsplit : splitId "BaseException.__getattribute__" = some ("BaseException", "__getattribute__") := by decide +kernel
 have ha := F.args_bexc_ga (.ref x) nameV
 have L0 := I.ty (M := M)
 have L1 := looks_subIn (M := M) X c.sub
 simp only [checkBuiltinCall, hk, hsplit]
 refine wpAny_bind ?_
 have LI : Looks M hh (isInstance (.ref x) (.type "BaseException")) true := L0.andThen L1
 refine LI.at ?_
 repeat (first | wp_step)
 exact hq
theorem Qmw {Q : Option Value → Shared → Prop} (X : K.In s.heap) (I : IsX x C s.heap) (c : ExcI K C) (h : Q (some (.ref C)) { s with toks := s.toks + 1 }) : wpAny (model prog w) A (getAttr? (.ref x) "__class__") Q E s := by
 obtain ⟨hh, g, d, t, os⟩ := s
 have L0 := I.ty (M := model prog w)
 have L1 := looks_findIn (M := model prog w) X c.ga
 have L2 := looks_findIn (M := model prog w) X c.gt
 unfold getAttr? getAttrBy? getAttrBy
 refine wpAny_bind (wpAny_mkText (wpAny_bind (wpAny_attempt (wpAny_holding (wpAny_bind (L0.at (wpAny_bind (L1.at ?_))))))))
 have hx1 : (onTheHeap (Value.ref C) && Value.builtin "BaseException.__getattribute__" == Value.builtin "object.__getattribute__") = false := by
  rw [show (Value.builtin "BaseException.__getattribute__" == Value.builtin "object.__getattribute__") = false from by decide +kernel, Bool.and_false]
 show wpAny _ _ (if (onTheHeap (Value.ref C) && Value.builtin "BaseException.__getattribute__" == Value.builtin "object.__getattribute__") = true then _ else _) _ _ _
 rw [hx1, if_neg Bool.false_ne_true]
 have f3 := F.attr_ValueError.ga.bind (.ref x)
 unfold getAttrByItsOwn hookBefore callGetattribute boundAndCalled
 refine wpAny_bind (L2.at (wpAny_bind (wpAny_attempt (wpAny_holding ?_))))
 show wpAny _ _ (bindSpecial _ _ >>= _) _ _ _
 rw [f3]
 refine wpAny_bind (wpAny_pure ?_)
 show wpAny _ _ (call (.builtin "BaseException.__getattribute__") [.ref x, .str "__class__" t]) _ _ _
 refine wpAny_call (codeAny_call_builtin F.attr_ValueError.ga.plain F.entry_bexc_ga (Qjc (s := ⟨hh, g, d, t + 1, os⟩) X I c (Qjb (s := ⟨hh, g, d, t + 1, os⟩) X I c ?_)))
 exact handed_on rfl (wpAny_pure h)
theorem QlL (c : ExcI K C) : KitX K (.ref x) (.ref C) (IsX x C) where
 ty := fun _ _ _ I => I.ty
 it := fun _ _ X _ => by
  obtain ⟨cdD, hcD⟩ := Option.isSome_iff_exists.mp c.cl
  unfold clsIn at hcD
  split at hcD
  ·rename_i c' d' cd' sl' ho
   intro A' Q' E' s' k q
   unfold isType loadHead
   exact wpAny_bind (wpAny_loadPart (k _ _ (X _ _ ho)) (wpAny_pure q))
  ·cases hcD
 ne := fun h tp dd its n sl X htp => by
  obtain ⟨cdD, hcD⟩ := Option.isSome_iff_exists.mp c.cl
  refine Bool.eq_false_iff.mpr fun q => ?_
  have e : C = tp := Value.ref.inj (beq_iff_eq.mp q)
  subst e
  unfold clsIn at hcD
  split at hcD
  ·rename_i c' d' cd' sl' ho
   have z := (X _ _ ho).symm.trans htp
   cases z
  ·cases hcD
 ca := fun X I k => Qmw X I c k
end
section
variable {X : Cx}
def clsV : V → Option Value
 | .ref c => some (.ref c)
 | .ty T => some (.type T)
 | _ => none
theorem ZF : QfU X (.builtin "isinstance") (fun xs H Q => ∃ a Ce v c b, xs = [.ref a, v] ∧ H a = some (Qmu a Ce) ∧ ExcI X.K Ce ∧ clsV v = some c ∧ kitOne X.K (.ref Ce) c = some b ∧ Q (.bl b) H) := by
 intro pins s σ H xs us Q I r h
 obtain ⟨a, Ce, v, c, b, rfl, ha, hc, hv, e, q⟩ := h
 obtain ⟨u, w', rfl, rx, rT⟩ := Qll r
 obtain rfl : u = Value.ref a := rx
 have hw : w' = c := by
  cases v <;> simp only [clsV] at hv <;> cases hv <;> exact rT
 subst hw
 exact kia_one (QlL hc) I.kIn (I.hok a _ ha).1 e (fun z => nomatch z) fun tk => ⟨.bl b, H, I.tok tk, rfl, q⟩
end
end L2
namespace L2
open PySem PySem.Spec PyProof.Rows PySem.W
theorem QhO (a b : Bool) : MeetsSeq.EqGives (.bool a) (.bool b) (a == b) := fun prog w _ E _ Q h => SeqAt.EqAt.bool_bool a b prog w E Q h
section
variable {X : Cx}
def rCount : V → List V → Hp → VK → Prop := fun x vs H Q => ∃ (l : Addr) (bs : List Bool), x = .ref l ∧ vs = [.bl true] ∧ H l = some (.lst (bs.map V.bl)) ∧ Q (.int (bs.countP id : Nat)) H
theorem QjP : ∀ {bs : List Bool} {its : List Value}, Vals (bs.map V.bl) its → its = bs.map Value.bool
 | [], _, .nil => rfl
 | _ :: _, _, .cons r t => by rw [QjP t]; cases r; rfl
theorem QlF : MtM X "list.count" rCount := by
 intro pins s σ H x vs v us Q I rx rv h
 obtain ⟨l, bs, rfl, rfl, hH, q⟩ := h
 cases rx
 obtain ⟨u, rfl, ru⟩ := rv.one
 cases ru
 obtain ⟨z, its, c, r, hl, e⟩ := I.lstM hH
 obtain rfl := QjP r
 refine call_meets F.slot_list_count ⟨_, e, rfl⟩ F.entry_list_count (F.args_list_count_2 _ _)
  (MeetsSeq.list_count l (bs.map Value.bool).toArray c (.bool true) (fun y => y == .bool true) (fun y hy => ?_)) ⟨e, ?_⟩
 ·obtain ⟨b, _, rfl⟩ := List.mem_map.mp (List.mem_toArray.mp hy)
  have := QhO b true
  cases b <;> exact this
 ·have hc : List.countP (fun y => y == Value.bool true) (bs.map Value.bool).toArray.toList = bs.countP id := by
   show List.countP _ (bs.map Value.bool) = _
   rw [List.countP_map]
   congr 1
   funext b
   cases b <;> rfl
  refine ⟨.int (bs.countP id : Nat), H, I.tok _, ⟨s.toks, ?_⟩, q⟩
  rw [hc]
end
theorem FunD.okX {x qual : Str} {st : Stmt} {f : Addr} {fd : FuncData} {ds : List Value} {N ps : List Str} {k : Nat} {sp : Sp} (F : FunD K x qual st f fd ds) (S : Qm N ps (Qg st)) (len : ∀ vs H Q E, sp vs H Q E → vs.length = ps.length)
  (hbody : ∀ (cdv : Value) (A : Around) (outer : List Env) (s : Shared) (H : Hp) (vs : List V) (Q : VK) (E : XK), Room k (A.deeper (envOfC qual (Qg st) s.heap.objs.size f cdv)) → sp vs H Q E →
   ∃ t, PSs (Qli (CXF P w) P w K mg base N qual (Qg st) f cdv A outer s H E) (Qr st) t ∧ t { nx := fun _ H' => Q .non H', rt := Q } (start N vs) H) : FnOk P w K mg base (CXF P w) (k + 1) f fd ps sp := by
 obtain ⟨oc, od, T, kV, doc, pm, an, cdv, ct, osl, oT, n, rfl, lk, hcd, _⟩ := F.ex
 exact QlQ lk hcd S len fun A outer s H vs Q E hr hsp => hbody cdv A outer s H vs Q E hr hsp
end L2
namespace LW
open PySem L2 PySem.W
def MethX (P : Program) (w : World) (K : Fg) (mg : Str → Option Value) (base : Heap) (C : Addr) (k : Nat) (m : Str) (ps : List Str) (sp : Sp) (dss : List (List Value)) : Prop :=
 ∃ f fd, Meth K C m f ∧ FnOk P w K mg base (CXF P w) k f fd ps sp ∧ ∀ ds ∈ dss, Binds K fd ps ds
def DefX (P : Program) (w : World) (K : Fg) (mg : Str → Option Value) (base : Heap) (k : Nat) (x : Str) (ps : List Str) (sp : Sp) (dss : List (List Value)) : Prop :=
 ∃ f fd, mg x = some (.ref f) ∧ PySem.W.keepIn K (.ref f) = true ∧ FnOk P w K mg base (CXF P w) k f fd ps sp ∧ ∀ ds ∈ dss, Binds K fd ps ds
structure XC (K : Fg) (XH : Addr) (Xs : List Addr) : Prop where
 nd : Xs.Nodup
 exc : ∀ D ∈ Xs, Exc K D
 isi : ∀ D ∈ Xs, ExcI K D
 one : ∀ D ∈ Xs, ∀ D' ∈ Xs, kitOne K (.ref D) (.ref D') = some (D == D')
 house : ∀ D ∈ Xs, kitOne K (.ref D) (.ref XH) = some true
 value : ∀ D ∈ Xs, kitOne K (.ref D) (.type "ValueError") = some true
 mat : ∀ D ∈ Xs, exmOne K (.ref D) (.ref XH) = some true
theorem QlW {Xs : List Addr} (nd : Xs.Nodup) {D : Addr} (h : D ∈ Xs) : (Xs.map fun D' => D == D').countP id = 1 := by
 rw [List.countP_map]
 have e : (id ∘ fun D' : Addr => D == D') = (fun D' : Addr => D' == D) := by
  funext z; show (D == z) = (z == D); exact BEq.comm
 rw [e]
 have := nd.count (a := D)
 rw [if_pos h] at this
 exact this
section
variable {X : Cx} {n : Nat} {x m : Str} {ps : List Str} {sp : Sp} {dss : List (List Value)} {e o : Expr} {es : List Expr} {t : TA} {ta : TE} {p pos apos : Pos} {C : Addr} {E : XK}
theorem qcx (D : DefX X.prog X.w X.K X.mg X.base n x ps sp ([] :: dss)) (tx : Throws X E) (hr : Room n X.A) (ha : PA X (e :: es) t) (hg : Gl X x := by rfl) (hdb : (x == ("__debug__" : Str)) = false := by decide) (he : starEach (e :: es) X.env = (false, eval e X.env) :: starEach es X.env := by rfl) (hpl : (backTo pos (starEach es X.env)).any (·.1) = false := by rfl) :
  PE X (.Call (.Name x p) (e :: es) [] pos) (Qlp sp [] E t) := let ⟨_, _, a, k, F, b⟩ := D; QgM F hr hg a k (b [] List.mem_cons_self) .nil (tx.passes (fun _ _ z => z)) ha hdb he hpl
theorem qmx {pl : Sem Bool} (M : MethX X.prog X.w X.K X.mg X.base C n m ps sp ([] :: dss)) (he : PE X o ta) (c : Cls X.K C) (tx : Throws X E) (hr : Room n X.A) (ha : PA X (e :: es) t)
  (hst : starEach (e :: es) X.env = (false, eval e X.env) :: starEach es X.env := by rfl) (hpl : (backTo pos (starEach es X.env)).any (·.1) = false := by rfl)
  (ht : eval (.Call (.Attribute o m apos) (e :: es) [] pos) X.env = (do
   let ov ← eval o X.env
   standAt apos.atName
   let (f, first) ← holding [ov] (getMethod ov m pl)
   PySem.callWith pos f first (backTo pos (starEach (e :: es) X.env)) (backToKw pos (keywordEach [] X.env))) := by rfl) :
  PE X (.Call (.Attribute o m apos) (e :: es) [] pos) (Qjf C m sp [] E ta t) := let ⟨_, _, a, F, b⟩ := M; Qif he c a F hr (b [] List.mem_cons_self) .nil (tx.passes (fun _ _ z => z)) ha hst hpl ht
end
end LW
namespace LW
open PySem L2 PySem.W
theorem ExcI.of {K : Fg} {C : Addr} (ga : findIn K (.ref C) "__getattribute__" = some (some (.builtin "BaseException.__getattribute__"))) (gt : findIn K (.ref C) "__getattr__" = some none) (sub : subIn K (.ref C) (.type "BaseException") = some true) (fd : findIn K (.ref C) "__class__" = some (some (.builtin "object.__class__")))
  (get : specialIn K (.builtin "object.__class__") "__get__" = some (some (.builtin "getset_descriptor.__get__"))) (take : takesIn K (.builtin "object.__class__") = some true) (mro : mroIn K C (.type "object") = some true) : ExcI K C := by
 refine ⟨ga, gt, sub, fd, get, take, mro, ?_⟩
 unfold mroIn at mro
 cases h : clsIn K C with
 | none => rw [h] at mro; cases mro
 | some c => rfl
theorem m8 {p : Addr → Prop} {a b c d e f g h : Addr} (h1 : p a) (h2 : p b) (h3 : p c) (h4 : p d) (h5 : p e) (h6 : p f) (h7 : p g) (h8 : p h) : ∀ D ∈ [a, b, c, d, e, f, g, h], p D := by
 intro D hD
 simp only [List.mem_cons, List.not_mem_nil, or_false] at hD
 rcases hD with rfl | rfl | rfl | rfl | rfl | rfl | rfl | rfl <;> assumption
theorem MethX.mono {C : Addr} {j k : Nat} {m : Str} {ps : List Str} {sp : Sp} {dss : List (List Value)} (h : MethX P w K mg base C j m ps sp dss) (hk : j ≤ k) : MethX P w K mg base C k m ps sp dss :=
 let ⟨f, fd, a, b, c⟩ := h; ⟨f, fd, a, b.mono hk, c⟩
theorem DefX.mono {j k : Nat} {x : Str} {ps : List Str} {sp : Sp} {dss : List (List Value)} (h : DefX P w K mg base j x ps sp dss) (hk : j ≤ k) : DefX P w K mg base k x ps sp dss :=
 let ⟨f, fd, a, q, b, c⟩ := h; ⟨f, fd, a, q, b.mono hk, c⟩
section
variable {C : Addr}
def Qev (C X : Addr) : Sp := fun vs H _ E => ∃ (p : Addr) (A : HA) (S : HS) (n : Int), vs = [.ref p, .int n] ∧ HouseAt C H p A S ∧ n ∉ names S ∧ n.natAbs.log2 < 1900 ∧ E (.ref X) none H
def QV (C X : Addr) : Sp := fun vs H Q E => Zl C vs H Q E ∨ Qev C X vs H Q E
theorem Qb3 (F : Fun K "check_box" "House.check_box" Zh f fd) (T : TX K mg C) {C_2 : Addr} (gx_2 : mg "NoBox" = some (.ref C_2)) (xc_2 : Exc K C_2)  :
  FnOk P w K mg base (CXF P w) (n + 1) f fd ["self", "name"] (Qev C C_2) := by
 refine F.okX QaS (by rintro _ _ _ _ ⟨_, _, _, _, rfl, _⟩; rfl) fun _ _ _ s H vs Q E hr h => ?_
 obtain ⟨p, A', S, n', rfl, hh, hn, hlog, k⟩ := h
 have hu := Qu hr
 refine ⟨_, (Qe (QA (Qag (QdL hu (pv 1) (QB (pv 0) rfl))) (Qe (QeY Ql rfl (by rfl) gx_2 xc_2 (Qa (QgL (Qhx (Qhy (pv 1) QiR))) Qc))) Qn)), ?_⟩
 have hv : Qa2 (Qx S.boxes) (Sum.inl n') = none := QcM (by rw [Zi]; intro z; obtain ⟨m, h1, h2⟩ := List.mem_map.mp z; exact hn (by rw [← Sum.inl.inj h2]; exact h1))
 refine ⟨_, rfl, _, rfl, p, C, A'.dx, _, _, rfl, hh.ob, T.cl, T.n_kinds, Qb6, A'.kd, _, rfl, DGet.k (k := Sum.inl n') hh.kd, _, rfl, ?_⟩
 rw [hv]
 refine QaK ?_
 exact ⟨by decide, by decide, _, rfl, n', rfl, hlog, by decide, fun y => ⟨zl, k⟩⟩
end
section
variable {C : Addr}
def Qdt (C X : Addr) : Sp := fun vs H _ E => ∃ (p : Addr) (A : HA) (S : HS) (n : Int), vs = [.ref p, .int n] ∧ HouseAt C H p A S ∧ n ∉ names S ∧ n.natAbs.log2 < 1900 ∧ E (.ref X) none H
theorem QhA (F : Fun K "walk" "walk" QeX f fd) (T : TX K mg C) {C_2 : Addr} (MX1_ : MethX P w K mg base C n "check_box" ["self", "name"] (QV C C_2) [[]]) :
  FnOk P w K mg base (CXF P w) (n + 1) f fd ["house", "name"] (Qdt C C_2) := by
 refine F.okX QaB (by rintro _ _ _ _ ⟨_, _, _, _, rfl, _⟩; rfl) fun _ _ _ s H vs Q E hr h => ?_
 obtain ⟨p, A', S, n', rfl, hh, hn, hlog, k⟩ := h
 have hu := Qu hr
 refine ⟨_, (Qb (Qk (qmx MX1_ (pv 0) T.cl Ql hr (Qa (pv 1) Qc)))
  QP), ?_⟩
 exact ⟨_, rfl, p, A'.dx, _, rfl, hh.ob, Qj, _, rfl, .inr ⟨p, A', S, n', rfl, hh, hn, hlog, k⟩⟩
end
section
variable {C : Addr}
theorem Qmn {n : Int} (h : n.natAbs ≤ 10 ^ 31) : n.natAbs.log2 < 1900 := by
 by_cases z : n.natAbs = 0
 ·rw [z]; decide
 ·exact (Nat.log2_lt z).mpr (Nat.lt_of_le_of_lt h (Nat.lt_of_lt_of_le (show 10 ^ 31 < 2 ^ 104 by decide) (Nat.pow_le_pow_right (by decide) (by decide))))
def Qdx (C X : Addr) : Sp := fun vs H _ E => ∃ (p : Addr) (A : HA) (S : HS) (i : Int), vs = [.ref p, .int i] ∧ HouseAt C H p A S ∧ (i < 0 ∨ S.slots.length ≤ i) ∧ i.natAbs.log2 < 1900 ∧ E (.ref X) none H
def Qck (C X : Addr) : Sp := fun vs H Q E => Qa3 C vs H Q E ∨ Qdx C X vs H Q E
theorem QbI (F : Fun K "check_slot" "House.check_slot" Zc f fd) (T : TX K mg C) {C_0 : Addr} (gx_0 : mg "NoSlot" = some (.ref C_0)) (xc_0 : Exc K C_0)  :
  FnOk P w K mg base (CXF P w) (n + 1) f fd ["self", "slot"] (Qdx C C_0) := by
 refine F.okX QaA (by rintro _ _ _ _ ⟨_, _, _, _, rfl, _⟩; rfl) fun _ _ _ s H vs Q E hr h => ?_
 obtain ⟨p, A', S, i, rfl, hh, ho, hlog, k⟩ := h
 have hu := Qu hr
 refine ⟨_, (Qe (QA (PW.pt (QeH (Qp QgN (pv 1) Qi (Qv _)) (Qcc (Qp Qjn (pv 1) (Qo Qs (by rfl) T.g_len PySem.boot_len (Qa (QB (pv 0) rfl) Qc)) (Qv _))))) (Qe (QeY Ql rfl (by rfl) gx_0 xc_0 (Qa (QgL (Qhx (Qhy (pv 1) QiR))) Qc))) Qn)), ?_⟩
 obtain ⟨ws, hs, ht⟩ := hh.sl
 refine ⟨_, rfl, _, _, rfl, rfl, _, rfl, Qgr (fun h => QaK ?_) (fun h => ?_)⟩
 ·exact ⟨by decide, by decide, _, rfl, i, rfl, hlog, by decide, fun y => ⟨zl, k⟩⟩
 ·have h : ¬ i < 0 := fun z => h (decide_eq_true z)
  refine ⟨_, rfl, _, rfl, p, C, A'.dx, _, _, rfl, hh.ob, T.cl, T.n_slots, QcX, A'.sl, ws, rfl, .inl (SqL.of hs), _, _, rfl, rfl, _, rfl, iteA (decide_eq_true (by rw [← QG ht]; omega)) ?_⟩
  exact ⟨by decide, by decide, _, rfl, i, rfl, hlog, by decide, fun y => ⟨zl, k⟩⟩
def Qc7 (X : Addr) : Sp := fun vs H _ E => ∃ (p : Addr) (i : Int), vs = [.ref p, .int i] ∧ (i < 0 ∨ 4 ≤ i) ∧ i.natAbs.log2 < 1900 ∧ E (.ref X) none H
def Qdy (C X : Addr) : Sp := fun vs H Q E => Qay C vs H Q E ∨ Qc7 X vs H Q E
theorem QbB (F : Fun K "check_guard" "House.check_guard" Q5 f fd) (T : TX K mg C) {C_1 : Addr} (gx_1 : mg "NoGuard" = some (.ref C_1)) (xc_1 : Exc K C_1)  :
  FnOk P w K mg base (CXF P w) (n + 1) f fd ["self", "guard"] (Qc7 C_1) := by
 refine F.okX Qae (by rintro _ _ _ _ ⟨_, _, rfl, _⟩; rfl) fun _ _ _ s H vs Q E hr h => ?_
 obtain ⟨p, i, rfl, ho, hlog, k⟩ := h
 have hu := Qu hr
 obtain ⟨tG, htG⟩ := T.g_guards
 refine ⟨_, (Qe (QA (PW.pt (QeH (Qp QgN (pv 1) Qi (Qv _)) (Qcc (Qp Qjn (pv 1) (Qac (v := .int 4) (by rfl) htG ⟨tG, rfl⟩) (Qv _))))) (Qe (QeY Ql rfl (by rfl) gx_1 xc_1 (Qa (QgL (Qhx (Qhy (pv 1) QiR))) Qc))) Qn)), ?_⟩
 refine ⟨_, rfl, _, _, rfl, rfl, _, rfl, Qgr (fun h => QaK ?_) (fun h => ?_)⟩
 ·exact ⟨by decide, by decide, _, rfl, i, rfl, hlog, by decide, fun y => ⟨zl, k⟩⟩
 ·have h : ¬ i < 0 := fun z => h (decide_eq_true z)
  refine ⟨_, rfl, _, _, rfl, rfl, _, rfl, iteA (decide_eq_true (by omega)) ?_⟩
  exact ⟨by decide, by decide, _, rfl, i, rfl, hlog, by decide, fun y => ⟨zl, k⟩⟩
def Qc8 (C X : Addr) : Sp := fun vs H _ E => ∃ (p : Addr) (A : HA) (S : HS) (i : Nat) (b : Box) (at_ : Int), vs = [.ref p, .int b.name, .int at_] ∧ HouseAt C H p A S ∧ S.boxes[i]? = some b ∧ (at_ < 0 ∨ b.row.length ≤ at_) ∧ b.name.natAbs.log2 < 1900 ∧ at_.natAbs.log2 < 1900 ∧ E (.ref X) none H
def Qdz (C X : Addr) : Sp := fun vs H Q E => Qbk C vs H Q E ∨ Qc8 C X vs H Q E
theorem QbC (F : Fun K "check_field" "House.check_field" Q6 f fd) (T : TX K mg C) {C_3 : Addr} (gx_3 : mg "NoField" = some (.ref C_3)) (xc_3 : Exc K C_3)  :
  FnOk P w K mg base (CXF P w) (n + 1) f fd ["self", "name", "at"] (Qc8 C C_3) := by
 refine F.okX Qaf (by rintro _ _ _ _ ⟨_, _, _, _, _, _, rfl, _⟩; rfl) fun _ _ _ s H vs Q E hr h => ?_
 obtain ⟨p, A', S, i, b, at_, rfl, hh, hi, ho, hlog, hlog2, k⟩ := h
 have hu := Qu hr
 refine ⟨_, (Qe (QA (PW.pt (QeH (Qp QgN (pv 2) Qi (Qv _)) (Qcc (Qp Qjn (pv 2) (Qo Qs (by rfl) T.g_len PySem.boot_len (Qa (Qao hu (QB (pv 0) rfl) (pv 1) (fun _ _ => rfl)) Qc)) (Qv _))))) (Qe (QeY Ql rfl (by rfl) gx_3 xc_3 (Qa (QgL (Qhx (Qhy (pv 1) (Qhx (Qhy (pv 2) QiR))))) Qc))) Qn)), ?_⟩
 obtain ⟨a, ws, ha, hw, ht, hv⟩ := hh.rowAt hi
 refine ⟨_, rfl, _, _, rfl, rfl, _, rfl, Qgr (fun h => QaK ?_) (fun h => ?_)⟩
 ·exact ⟨by decide, by decide, _, rfl, b.name, rfl, hlog, by decide, by decide, _, rfl, at_, rfl, hlog2, by decide, fun y => ⟨zl, k⟩⟩
 ·have h : ¬ at_ < 0 := fun z => h (decide_eq_true z)
  refine ⟨_, rfl, _, rfl, p, C, A'.dx, _, _, rfl, hh.ob, T.cl, T.n_fields, Qbe, _, rfl, A'.fd, .ref a, rfl, ?_, a, ws, rfl, .inl (SqL.of hw), _, _, rfl, rfl, _, rfl, iteA (decide_eq_true (by rw [← QG ht]; omega)) ?_⟩
  ·rw [← hv]; exact DGet.k (k := Sum.inl b.name) hh.fd
  exact ⟨by decide, by decide, _, rfl, b.name, rfl, hlog, by decide, by decide, _, rfl, at_, rfl, hlog2, by decide, fun y => ⟨zl, k⟩⟩
def Qc6 (C X : Addr) : Sp := fun vs H _ E => ∃ (p : Addr) (A : HA) (S : HS) (v : V) (n : Int), vs = [.ref p, v] ∧ HouseAt C H p A S ∧ isT H (.box n) v ∧ n ∉ names S ∧ n.natAbs.log2 < 1900 ∧ E (.ref X) none H
def Qdw (C X : Addr) : Sp := fun vs H Q E => Qbj C vs H Q E ∨ Qc6 C X vs H Q E
theorem QbA (F : Fun K "check_thing" "House.check_thing" Q4 f fd) (T : TX K mg C) {C_2 : Addr} (D1_ : DefOk P w K mg base n "box_name" ["thing"] (Zv) [[]])
  (MX2_ : MethX P w K mg base C n "check_box" ["self", "name"] (QV C C_2) [[]]) :
  FnOk P w K mg base (CXF P w) (n + 1) f fd ["self", "thing"] (Qc6 C C_2) := by
 refine F.okX Q0 (by rintro _ _ _ _ ⟨_, _, _, _, _, rfl, _⟩; rfl) fun _ _ _ s H vs Q E hr h => ?_
 obtain ⟨p, A', S, v, n', rfl, hh, tv, hn, hlog, k⟩ := h
 have hu := Qu hr
 refine ⟨_, (Qb (Qw (i := 2) Q0.nd rfl (Or.inl rfl) (qc D1_ hr (Qa (pv 1) Qc)))
  (Qe (QA (Qag (Qbz (pv 2))) (Qe (Qk (qmx MX2_ (pv 0) T.cl Ql hr (Qa (pv 2) Qc)))) Qn))), ?_⟩
 refine ⟨_, rfl, v, .box n', rfl, tv, ?_⟩
 exact ⟨_, rfl, _, rfl, QaK ⟨_, rfl, p, A'.dx, _, rfl, hh.ob, Qj, _, rfl, .inr ⟨p, A', S, n', rfl, hh, hn, hlog, k⟩⟩⟩
end
section
variable {C : Addr}
abbrev QbD (n : Int) : Prop := n.natAbs.log2 < 1900
def QiH (C XS XB : Addr) : Sp := fun vs H _ E => ∃ (p : Addr) (A : HA) (S : HS) (i : Int) (v : V), vs = [.ref p, .int i, v] ∧ HouseAt C H p A S ∧ (((i < 0 ∨ S.slots.length ≤ i) ∧ QbD i ∧ E (.ref XS) none H) ∨ (0 ≤ i ∧ i < S.slots.length ∧ ∃ n, isT H (.box n) v ∧ n ∉ names S ∧ QbD n ∧ E (.ref XB) none H))
theorem QdR (F : Fun K "hold" "House.hold" Qav f fd) (T : TX K mg C) {C_0 C_2 : Addr} (MX1_ : MethX P w K mg base C n "check_slot" ["self", "slot"] (Qck C C_0) [[]])
  (MX2_ : MethX P w K mg base C n "check_thing" ["self", "thing"] (Qdw C C_2) [[]]) :
  FnOk P w K mg base (CXF P w) (n + 1) f fd ["self", "slot", "thing"] (QiH C C_0 C_2) := by
 refine F.okX Qcn (by rintro _ _ _ _ ⟨_, _, _, _, _, rfl, _⟩; rfl) fun _ _ _ s H vs Q E hr h => ?_
 obtain ⟨p, A', S, i, v, rfl, hh, cs⟩ := h
 have hu := Qu hr
 refine ⟨_, (Qb (Qk (qmx MX1_ (pv 0) T.cl Ql hr (Qa (pv 1) Qc)))
  (Qb (Qk (qmx MX2_ (pv 0) T.cl Ql hr (Qa (pv 2) Qc)))
  QP)), ?_⟩
 rcases cs with ⟨ho, hlog, k⟩ | ⟨h0, h1, n', tv, hn, hlog, k⟩
 ·exact ⟨_, rfl, p, A'.dx, _, rfl, hh.ob, Qj, _, rfl, .inr ⟨p, A', S, i, rfl, hh, ho, hlog, k⟩⟩
 ·exact ⟨_, rfl, p, A'.dx, _, rfl, hh.ob, Qj, _, rfl, .inl ⟨p, A', S, i, rfl, hh, h0, h1, _, rfl, p, A'.dx, _, rfl, hh.ob, Qj, _, rfl, .inr ⟨p, A', S, v, n', rfl, hh, tv, hn, hlog, k⟩⟩⟩
def Qbi (C XG XB : Addr) : Sp := fun vs H _ E => ∃ (p : Addr) (A : HA) (S : HS) (g n : Int), vs = [.ref p, .int g, .int n] ∧ HouseAt C H p A S ∧ (((g < 0 ∨ 4 ≤ g) ∧ QbD g ∧ E (.ref XG) none H) ∨ (0 ≤ g ∧ g < 4 ∧ n ∉ names S ∧ QbD n ∧ E (.ref XB) none H))
theorem Qdm (F : Fun K "watch" "House.watch" Z6 f fd) (T : TX K mg C) {C_1 C_2 : Addr} (MX1_ : MethX P w K mg base C n "check_guard" ["self", "guard"] (Qdy C C_1) [[]])
  (MX2_ : MethX P w K mg base C n "check_box" ["self", "name"] (QV C C_2) [[]]) :
  FnOk P w K mg base (CXF P w) (n + 1) f fd ["self", "guard", "name"] (Qbi C C_1 C_2) := by
 refine F.okX Qca (by rintro _ _ _ _ ⟨_, _, _, _, _, rfl, _⟩; rfl) fun _ _ _ s H vs Q E hr h => ?_
 obtain ⟨p, A', S, g, n', rfl, hh, cs⟩ := h
 have hu := Qu hr
 refine ⟨_, (Qb (Qk (qmx MX1_ (pv 0) T.cl Ql hr (Qa (pv 1) Qc)))
  (Qb (Qk (qmx MX2_ (pv 0) T.cl Ql hr (Qa (pv 2) Qc)))
  QP)), ?_⟩
 rcases cs with ⟨ho, hlog, k⟩ | ⟨h0, h1, hn, hlog, k⟩
 ·exact ⟨_, rfl, p, A'.dx, _, rfl, hh.ob, Qj, _, rfl, .inr ⟨p, g, rfl, ho, hlog, k⟩⟩
 ·exact ⟨_, rfl, p, A'.dx, _, rfl, hh.ob, Qj, _, rfl, .inl ⟨p, g, rfl, h0, h1, _, rfl, p, A'.dx, _, rfl, hh.ob, Qj, _, rfl, .inr ⟨p, A', S, n', rfl, hh, hn, hlog, k⟩⟩⟩
theorem Qdn (F : Fun K "leave" "House.leave" Qa7 f fd) (T : TX K mg C) {C_1 C_2 : Addr} (MX1_ : MethX P w K mg base C n "check_guard" ["self", "guard"] (Qdy C C_1) [[]])
  (MX2_ : MethX P w K mg base C n "check_box" ["self", "name"] (QV C C_2) [[]]) :
  FnOk P w K mg base (CXF P w) (n + 1) f fd ["self", "guard", "name"] (Qbi C C_1 C_2) := by
 refine F.okX QeF (by rintro _ _ _ _ ⟨_, _, _, _, _, rfl, _⟩; rfl) fun _ _ _ s H vs Q E hr h => ?_
 obtain ⟨p, A', S, g, n', rfl, hh, cs⟩ := h
 have hu := Qu hr
 refine ⟨_, (Qb (Qk (qmx MX1_ (pv 0) T.cl Ql hr (Qa (pv 1) Qc)))
  (Qb (Qk (qmx MX2_ (pv 0) T.cl Ql hr (Qa (pv 2) Qc)))
  QP)), ?_⟩
 rcases cs with ⟨ho, hlog, k⟩ | ⟨h0, h1, hn, hlog, k⟩
 ·exact ⟨_, rfl, p, A'.dx, _, rfl, hh.ob, Qj, _, rfl, .inr ⟨p, g, rfl, ho, hlog, k⟩⟩
 ·exact ⟨_, rfl, p, A'.dx, _, rfl, hh.ob, Qj, _, rfl, .inl ⟨p, g, rfl, h0, h1, _, rfl, p, A'.dx, _, rfl, hh.ob, Qj, _, rfl, .inr ⟨p, A', S, n', rfl, hh, hn, hlog, k⟩⟩⟩
def Qj3 (C XB XF : Addr) : Sp := fun vs H _ E => ∃ (p : Addr) (A : HA) (S : HS) (n at_ : Int) (v : V), vs = [.ref p, .int n, .int at_, v] ∧ HouseAt C H p A S ∧ ((n ∉ names S ∧ QbD n ∧ E (.ref XB) none H) ∨ (∃ (i : Nat) (b : Box), S.boxes[i]? = some b ∧ n = b.name ∧ ((∃ m, isT H (.box m) v ∧ m ∉ names S ∧ QbD m ∧ E (.ref XB) none H) ∨ ∃ t : LW.T, isT H t v ∧ t.In (names S) ∧ (at_ < 0 ∨ b.row.length ≤ at_) ∧ QbD n ∧ QbD at_ ∧ E (.ref XF) none H)))
theorem Qef (F : Fun K "put" "House.put" QaX f fd) (T : TX K mg C) {C_2 C_3 : Addr} (MX1_ : MethX P w K mg base C n "check_box" ["self", "name"] (QV C C_2) [[]])
  (MX2_ : MethX P w K mg base C n "check_thing" ["self", "thing"] (Qdw C C_2) [[]])
  (MX3_ : MethX P w K mg base C n "check_field" ["self", "name", "at"] (Qdz C C_3) [[]]) :
  FnOk P w K mg base (CXF P w) (n + 1) f fd ["self", "name", "at", "thing"] (Qj3 C C_2 C_3) := by
 refine F.okX Qc9 (by rintro _ _ _ _ ⟨_, _, _, _, _, _, rfl, _⟩; rfl) fun _ _ _ s H vs Q E hr h => ?_
 obtain ⟨p, A', S, n', at_, v, rfl, hh, cs⟩ := h
 have hu := Qu hr
 refine ⟨_, (Qb (Qk (qmx MX1_ (pv 0) T.cl Ql hr (Qa (pv 1) Qc)))
  (Qb (Qk (qmx MX2_ (pv 0) T.cl Ql hr (Qa (pv 3) Qc)))
  (Qb (Qk (qmx MX3_ (pv 0) T.cl Ql hr (Qa (pv 1) (Qa (pv 2) Qc))))
  QP))), ?_⟩
 rcases cs with ⟨hn, hlog, k⟩ | ⟨i, b, hb, rfl, ⟨m, tv, hm, hlog, k⟩ | ⟨t, tv, hin, ho, hlog, hlog2, k⟩⟩
 ·exact ⟨_, rfl, p, A'.dx, _, rfl, hh.ob, Qj, _, rfl, .inr ⟨p, A', S, n', rfl, hh, hn, hlog, k⟩⟩
 ·exact ⟨_, rfl, p, A'.dx, _, rfl, hh.ob, Qj, _, rfl, .inl ⟨p, A', S, b.name, rfl, hh, Qaw hb, _, rfl, p, A'.dx, _, rfl, hh.ob, Qj, _, rfl, .inr ⟨p, A', S, v, m, rfl, hh, tv, hm, hlog, k⟩⟩⟩
 ·exact ⟨_, rfl, p, A'.dx, _, rfl, hh.ob, Qj, _, rfl, .inl ⟨p, A', S, b.name, rfl, hh, Qaw hb, _, rfl, p, A'.dx, _, rfl, hh.ob, Qj, _, rfl, .inl ⟨p, A', S, v, t, rfl, hh, tv, hin, _, rfl, p, A'.dx, _, rfl, hh.ob, Qj, _, rfl, _, rfl, .inr ⟨p, A', S, i, b, at_, rfl, hh, hb, ho, hlog, hlog2, k⟩⟩⟩⟩
def Qho (C XB XF : Addr) : Sp := fun vs H _ E => ∃ (p : Addr) (A : HA) (S : HS) (n at_ : Int), vs = [.ref p, .int n, .int at_] ∧ HouseAt C H p A S ∧ ((n ∉ names S ∧ QbD n ∧ E (.ref XB) none H) ∨ (∃ (i : Nat) (b : Box), S.boxes[i]? = some b ∧ n = b.name ∧ (at_ < 0 ∨ b.row.length ≤ at_) ∧ QbD n ∧ QbD at_ ∧ E (.ref XF) none H))
theorem Qdp (F : Fun K "field" "House.field" Z8 f fd) (T : TX K mg C) {C_2 C_3 : Addr} (MX1_ : MethX P w K mg base C n "check_box" ["self", "name"] (QV C C_2) [[]])
  (MX2_ : MethX P w K mg base C n "check_field" ["self", "name", "at"] (Qdz C C_3) [[]]) :
  FnOk P w K mg base (CXF P w) (n + 1) f fd ["self", "name", "at"] (Qho C C_2 C_3) := by
 refine F.okX Qcb (by rintro _ _ _ _ ⟨_, _, _, _, _, rfl, _⟩; rfl) fun _ _ _ s H vs Q E hr h => ?_
 obtain ⟨p, A', S, n', at_, rfl, hh, cs⟩ := h
 have hu := Qu hr
 refine ⟨_, (Qb (Qk (qmx MX1_ (pv 0) T.cl Ql hr (Qa (pv 1) Qc)))
  (Qb (Qk (qmx MX2_ (pv 0) T.cl Ql hr (Qa (pv 1) (Qa (pv 2) Qc))))
  QP)), ?_⟩
 rcases cs with ⟨hn, hlog, k⟩ | ⟨i, b, hb, rfl, ho, hlog, hlog2, k⟩
 ·exact ⟨_, rfl, p, A'.dx, _, rfl, hh.ob, Qj, _, rfl, .inr ⟨p, A', S, n', rfl, hh, hn, hlog, k⟩⟩
 ·exact ⟨_, rfl, p, A'.dx, _, rfl, hh.ob, Qj, _, rfl, .inl ⟨p, A', S, b.name, rfl, hh, Qaw hb, _, rfl, p, A'.dx, _, rfl, hh.ob, Qj, _, rfl, _, rfl, .inr ⟨p, A', S, i, b, at_, rfl, hh, hb, ho, hlog, hlog2, k⟩⟩⟩
def Qdv (C XB : Addr) : Sp := fun vs H _ E => ∃ (p : Addr) (A : HA) (S : HS) (n m : Int), vs = [.ref p, .int n, .int m] ∧ HouseAt C H p A S ∧ ((n ∉ names S ∧ QbD n ∧ E (.ref XB) none H) ∨ (n ∈ names S ∧ m ∉ names S ∧ QbD m ∧ E (.ref XB) none H))
theorem QdO (F : Fun K "swap" "House.swap" Qbs f fd) (T : TX K mg C) {C_2 : Addr} (MX1_ : MethX P w K mg base C n "check_box" ["self", "name"] (QV C C_2) [[]]) :
  FnOk P w K mg base (CXF P w) (n + 1) f fd ["self", "name", "other"] (Qdv C C_2) := by
 refine F.okX Qfe (by rintro _ _ _ _ ⟨_, _, _, _, _, rfl, _⟩; rfl) fun _ _ _ s H vs Q E hr h => ?_
 obtain ⟨p, A', S, n', m, rfl, hh, cs⟩ := h
 have hu := Qu hr
 refine ⟨_, (Qb (Qk (qmx MX1_ (pv 0) T.cl Ql hr (Qa (pv 1) Qc)))
  (Qb (Qk (qmx MX1_ (pv 0) T.cl Ql hr (Qa (pv 2) Qc)))
  QP)), ?_⟩
 rcases cs with ⟨hn, hlog, k⟩ | ⟨hn, hm, hlog, k⟩
 ·exact ⟨_, rfl, p, A'.dx, _, rfl, hh.ob, Qj, _, rfl, .inr ⟨p, A', S, n', rfl, hh, hn, hlog, k⟩⟩
 ·exact ⟨_, rfl, p, A'.dx, _, rfl, hh.ob, Qj, _, rfl, .inl ⟨p, A', S, n', rfl, hh, hn, _, rfl, p, A'.dx, _, rfl, hh.ob, Qj, _, rfl, .inr ⟨p, A', S, m, rfl, hh, hm, hlog, k⟩⟩⟩
def QaL (C XB : Addr) : Sp := fun vs H _ E => ∃ (p : Addr) (A : HA) (S : HS) (n : Int), vs = [.ref p, .int n] ∧ HouseAt C H p A S ∧ n ∉ names S ∧ QbD n ∧ E (.ref XB) none H
theorem QdQ (F : Fun K "kind" "House.kind" Qau f fd) (T : TX K mg C) {C_2 : Addr} (MX1_ : MethX P w K mg base C n "check_box" ["self", "name"] (QV C C_2) [[]]) :
  FnOk P w K mg base (CXF P w) (n + 1) f fd ["self", "name"] (QaL C C_2) := by
 refine F.okX Qcm (by rintro _ _ _ _ ⟨_, _, _, _, rfl, _⟩; rfl) fun _ _ _ s H vs Q E hr h => ?_
 obtain ⟨p, A', S, n', rfl, hh, hn, hlog, k⟩ := h
 have hu := Qu hr
 refine ⟨_, (Qb (Qk (qmx MX1_ (pv 0) T.cl Ql hr (Qa (pv 1) Qc)))
  QP), ?_⟩
 exact ⟨_, rfl, p, A'.dx, _, rfl, hh.ob, Qj, _, rfl, .inr ⟨p, A', S, n', rfl, hh, hn, hlog, k⟩⟩
theorem QdP (F : Fun K "size" "House.size" Qat f fd) (T : TX K mg C) {C_2 : Addr} (MX1_ : MethX P w K mg base C n "check_box" ["self", "name"] (QV C C_2) [[]]) :
  FnOk P w K mg base (CXF P w) (n + 1) f fd ["self", "name"] (QaL C C_2) := by
 refine F.okX Qcl (by rintro _ _ _ _ ⟨_, _, _, _, rfl, _⟩; rfl) fun _ _ _ s H vs Q E hr h => ?_
 obtain ⟨p, A', S, n', rfl, hh, hn, hlog, k⟩ := h
 have hu := Qu hr
 refine ⟨_, (Qb (Qk (qmx MX1_ (pv 0) T.cl Ql hr (Qa (pv 1) Qc)))
  QP), ?_⟩
 exact ⟨_, rfl, p, A'.dx, _, rfl, hh.ob, Qj, _, rfl, .inr ⟨p, A', S, n', rfl, hh, hn, hlog, k⟩⟩
end
theorem Qde {α : Type} {l : List α} {i : Nat} {x : α} (h : l[i]? = some x) : l.take (i + 1) = l.take i ++ [x] := by rw [List.take_add_one, h]; rfl
def Qgz (ns xs : List Int) : List Int := xs.foldl (fun a x => if x ∈ a then a else a ++ [x]) ns
theorem Qlf (ns xs : List Int) (x : Int) : Qgz ns (xs ++ [x]) = if x ∈ Qgz ns xs then Qgz ns xs else Qgz ns xs ++ [x] := by
 unfold Qgz; rw [List.foldl_append]; rfl
theorem Qd6 (ns xs : List Int) (x : Int) : Qgz ns (x :: xs) = Qgz (if x ∈ ns then ns else ns ++ [x]) xs := rfl
theorem Qd5 : ∀ (xs ns : List Int), ∃ ys, Qgz ns xs = ns ++ ys
 | [], ns => ⟨[], by simp [Qgz]⟩
 | x :: xs, ns => by
  rw [Qd6]
  split
  ·exact Qd5 xs ns
  ·obtain ⟨ys, e⟩ := Qd5 xs (ns ++ [x])
   exact ⟨x :: ys, by rw [e]; simp⟩
theorem Qhc : ∀ (xs : List Int) {ns : List Int}, ns.Nodup → (Qgz ns xs).Nodup
 | [], ns, h => h
 | x :: xs, ns, h => by
  rw [Qd6]
  split
  ·exact Qhc xs h
  ·rename_i z; exact Qhc xs (QcF h z)
theorem Qe0 : ∀ (xs : List Int) {ns : List Int} {n : Int}, n ∈ Qgz ns xs → n ∈ ns ∨ n ∈ xs
 | [], ns, n, h => .inl h
 | x :: xs, ns, n, h => by
  rw [Qd6] at h
  split at h
  ·rcases Qe0 xs h with z | z
   ·exact .inl z
   ·exact .inr (List.mem_cons_of_mem _ z)
  ·rcases Qe0 xs h with z | z
   ·rcases List.mem_append.mp z with z | z
    ·exact .inl z
    ·exact .inr (by rw [List.mem_singleton.mp z]; exact List.mem_cons_self)
   ·exact .inr (List.mem_cons_of_mem _ z)
def wk (succ : Int → List Int) (n : Int) : Nat → List Int
 | 0 => [n]
 | k + 1 => match (wk succ n k)[k]? with
  | none => wk succ n k
  | some x => Qgz (wk succ n k) (succ x)
theorem Qe2 {succ : Int → List Int} {n x : Int} {k : Nat} (h : (wk succ n k)[k]? = some x) : wk succ n (k + 1) = Qgz (wk succ n k) (succ x) := by
 show (match (wk succ n k)[k]? with | none => _ | some x => _) = _
 rw [h]
theorem QgA {succ : Int → List Int} {n : Int} {k : Nat} (h : (wk succ n k)[k]? = none) : wk succ n (k + 1) = wk succ n k := by
 show (match (wk succ n k)[k]? with | none => _ | some x => _) = _
 rw [h]
theorem QjN (succ : Int → List Int) (n : Int) : ∀ k, (wk succ n k).Nodup
 | 0 => by simp [wk]
 | k + 1 => by
  cases e : (wk succ n k)[k]? with
  | none => rw [QgA e]; exact QjN succ n k
  | some x => rw [Qe2 e]; exact Qhc _ (QjN succ n k)
theorem Qjd {succ : Int → List Int} {n : Int} {N : List Int} (h0 : n ∈ N) (hs : ∀ x ∈ N, ∀ y ∈ succ x, y ∈ N) : ∀ k, ∀ y ∈ wk succ n k, y ∈ N
 | 0 => by simpa [wk] using h0
 | k + 1 => by
  intro y hy
  cases e : (wk succ n k)[k]? with
  | none => rw [QgA e] at hy; exact Qjd h0 hs k y hy
  | some x =>
   rw [Qe2 e] at hy
   rcases Qe0 _ hy with z | z
   ·exact Qjd h0 hs k y z
   ·exact hs x (Qjd h0 hs k x (List.mem_of_getElem? e)) y z
theorem QlZ {succ : Int → List Int} {n : Int} {N : List Int} (h0 : n ∈ N) (hs : ∀ x ∈ N, ∀ y ∈ succ x, y ∈ N) (k : Nat) : (wk succ n k).length ≤ N.length := QbJ (QjN succ n k) (Qjd h0 hs k)
theorem Qh2 {succ : Int → List Int} {n : Int} {k : Nat} (h : (wk succ n k).length ≤ k) : ∀ j, wk succ n (k + j) = wk succ n k
 | 0 => rfl
 | j + 1 => by
  have ih := Qh2 h j
  have e : (wk succ n (k + j))[k + j]? = none := by rw [ih]; exact List.getElem?_eq_none (by omega)
  rw [← Nat.add_assoc, QgA e, ih]
theorem wk_end {succ : Int → List Int} {n : Int} {k m : Nat} (h : (wk succ n k).length = k) (hk : k ≤ m) : wk succ n k = wk succ n m := by
 obtain ⟨j, rfl⟩ := Nat.le.dest hk
 exact (Qh2 (by omega) j).symm
def QbF (bs : List Box) (n : Int) : List Int := match bs.find? (fun b => decide (b.name = n)) with
 | some b => QC b.row
 | none => []
theorem QgB {bs : List Box} {i : Nat} {b : Box} (nd : (bs.map (·.name)).Nodup) (h : bs[i]? = some b) : QbF bs b.name = QC b.row := by
 have hm := List.mem_of_getElem? h
 have : bs.find? (fun c => decide (c.name = b.name)) = some b := by
  induction bs generalizing i with
  | nil => simp at h
  | cons c r ih =>
   rw [List.find?_cons]
   by_cases e : c.name = b.name
   ·rw [decide_eq_true e]
    have nd' := List.nodup_cons.mp (show (c.name :: r.map (·.name)).Nodup from nd)
    rcases List.mem_cons.mp hm with z | z
    ·rw [z]
    ·exact absurd (List.mem_map.mpr ⟨b, z, e.symm⟩) nd'.1
   ·rw [decide_eq_false e]
    have nd' := List.nodup_cons.mp (show (c.name :: r.map (·.name)).Nodup from nd)
    rcases List.mem_cons.mp hm with z | z
    ·exact absurd (by rw [z]) e
    ·obtain ⟨j, hj⟩ := List.getElem?_of_mem z
     exact ih nd'.2 hj z
 unfold QbF
 rw [this]
def ClosedB (bs : List Box) : Prop := ∀ b ∈ bs, b.row.length ≤ 900 ∧ ∀ m, .box m ∈ b.row → m ∈ bs.map (·.name)
theorem ClosedB.succ {bs : List Box} (nd : (bs.map (·.name)).Nodup) (h : ClosedB bs) : ∀ x ∈ bs.map (·.name), ∀ y ∈ QbF bs x, y ∈ bs.map (·.name) := by
 intro x hx y hy
 obtain ⟨b, hb, rfl⟩ := List.mem_map.mp hx
 obtain ⟨i, hi⟩ := List.getElem?_of_mem hb
 rw [QgB nd hi] at hy
 exact (h b hb).2 y (Qap.mp hy)
def Qa1 (bs : List Box) (n : Int) : List Int := wk (QbF bs) n bs.length
def QdV (ns : List Int) : List (Key × V) := ns.map fun n => ((Sum.inl n : Key), V.bl true)
theorem QhF (ns : List Int) (n : Int) : (Qa2 (QdV ns) (Sum.inl n)).isSome = decide (n ∈ ns) := by
 cases e : Qa2 (QdV ns) (Sum.inl n) with
 | some v =>
  have := Qh5 e
  rw [QdV, List.map_map] at this
  obtain ⟨r, hr, z⟩ := List.mem_map.mp this
  have z : r = n := Sum.inl.inj z
  simp only [Option.isSome_some]
  exact (decide_eq_true (z ▸ hr)).symm
 | none =>
  have := QiD e
  refine (decide_eq_false fun m => this ?_).symm
  rw [QdV, List.map_map]
  exact List.mem_map.mpr ⟨n, m, rfl⟩
theorem QkH {ns : List Int} {n : Int} (h : n ∉ ns) : Qci (QdV ns) (Sum.inl n) (.bl true) = QdV (ns ++ [n]) := by
 have e : Qa2 (QdV ns) (Sum.inl n) = none := by
  have := QhF ns n
  rw [decide_eq_false h] at this
  cases z : Qa2 (QdV ns) (Sum.inl n) with
  | none => rfl
  | some v => rw [z] at this; cases this
 unfold Qci
 rw [QcO, e]
 show QdV ns ++ [(Sum.inl n, V.bl true)] = _
 simp [QdV]
def QgD (C : Addr) : Sp := fun vs H Q _ => ∃ (p : Addr) (A : HA) (S : HS) (i : Nat) (b : Box), vs = [.ref p, .int b.name] ∧ HouseAt C H p A S ∧ S.boxes[i]? = some b ∧ b.row.length ≤ 900 ∧ ∀ l H', Same H H' → H l = none → ThL H' b.row l → Q (.ref l) H'
def Qhp (C : Addr) : Sp := fun vs H Q _ => ∃ (p : Addr) (A : HA) (S : HS) (i : Nat) (b : Box), vs = [.ref p, .int b.name] ∧ HouseAt C H p A S ∧ S.boxes[i]? = some b ∧ b.row.length ≤ 900 ∧ ∀ l H', Same H H' → H l = none → H' l = some (.lst ((QC b.row).map V.int)) → Q (.ref l) H'
def Ql3 (C : Addr) : Sp := fun vs H Q _ => ∃ (p : Addr) (A : HA) (S : HS) (n : Int), vs = [.ref p, .int n] ∧ HouseAt C H p A S ∧ n ∈ names S ∧ ClosedB S.boxes ∧ S.boxes.length ≤ 900 ∧ ∀ l H', Same H H' → H l = none → H' l = some (.lst ((Qa1 S.boxes n).map V.int)) → Q (.ref l) H'
section
variable {C : Addr}
theorem QeV : Qz (Qg Z9) ["house", "name"] (QD ((Qhw (QeB (Qr Z9) 0)))) "at" ["name", "house"] [1, 0] :=
 bsk
theorem Qf2 (F : Fun K "things_in" "things_in" Z9 f fd) (T : TX K mg C) (M1_ : MethOk P w K mg base C n "size" ["self", "name"] (Qhl C) [[]])
  (M2_ : MethOk P w K mg base C n "field" ["self", "name", "at"] (Qcj C) [[]]) :
  FnOk P w K mg base CX0 (n + 1) f fd ["house", "name"] (QgD C) := by
 refine F.ok QfX (by rintro _ _ _ _ ⟨_, _, _, _, _, rfl, _⟩; rfl) fun _ _ _ s H vs Q E hr h => ?_
 obtain ⟨p, A', S, i, b, rfl, hh, hb, hrow, k⟩ := h
 have hu := Qu hr
 refine ⟨_, (Qe (Qq (Qbd QeV rfl (QL (by rfl) T.g_range (Qa (qm M1_ (pv 0) T.cl hr (Qa (pv 1) Qc)) Qc)) (fun _ _ _ _ => Zd) (fun _ _ _ _ => (qm M2_ (pv 2) T.cl hr (Qa (pv 1) (Qa (pv 0) Qc))))))), ?_⟩
 refine ⟨_, rfl, p, A'.dx, _, rfl, hh.ob, Qj, _, rfl, p, A', S, i, b, rfl, hh, hb, (b.row.length : Int), rfl, by omega, by omega, ?_⟩
 refine Qaq (lo := 0) (n := ((b.row.length : Int)).toNat) (fun j ys H' => H' = H ∧ Ths H (b.row.take j) ys) ⟨rfl, .nil⟩ ?_ (ZO (by omega)) ?_ ?_
 ·rintro j ys H' ⟨_, ht⟩
  rw [← QG ht, List.length_take]; omega
 ·rintro j ys H' hj ⟨rfl, ht⟩
  dsimp only [Qc0]
  have e0 : (0 : Int) + (j : Int) = (j : Int) := Int.zero_add _
  rw [e0]
  have hjr : j < b.row.length := by omega
  refine QaK ⟨_, rfl, p, A'.dx, _, rfl, hh.ob, Qj, _, rfl, _, rfl, p, A', S, i, b, j, b.row[j], rfl, hh, hb, List.getElem?_eq_getElem hjr, fun v tv => ⟨rfl, ?_⟩⟩
  rw [Qde (List.getElem?_eq_getElem hjr)]
  exact Qbc ht (.cons tv .nil)
 ·rintro ys H4 ⟨rfl, ht⟩ r hr4
  rw [show ((b.row.length : Int)).toNat = b.row.length by omega, List.take_length] at ht
  exact k r _ (Same.new hr4) hr4 ⟨ys, Qd, Ths.keep (Tups.new hr4) ht⟩
theorem QfS : Qz (Qg ZB) ["house", "name", "found"] (QD ((QaJ (QeB (Qr ZB) 0)))) "thing" [] [] :=
 bsk
theorem QfR : Qz (Qg ZB) ["house", "name", "found"] (QD ((Qhw (QeB (Qr ZB) 1)))) "inner" [] [] :=
 bsk
theorem QgU (F : Fun K "boxes_in" "boxes_in" ZB f fd) (T : TX K mg C) (D1_ : DefOk P w K mg base n "things_in" ["house", "name"] (QgD C) [[]])
  (D2_ : DefOk P w K mg base n "box_name" ["thing"] (Zv) [[]]) :
  FnOk P w K mg base CX0 (n + 1) f fd ["house", "name"] (Qhp C) := by
 refine F.ok QdE (by rintro _ _ _ _ ⟨_, _, _, _, _, rfl, _⟩; rfl) fun _ _ _ s H vs Q E hr h => ?_
 obtain ⟨p, A', S, i, b, rfl, hh, hb, hrow, k⟩ := h
 have hu := Qu hr
 refine ⟨_, (Qb (Zo (i := 2) QfS rfl QdE.nd rfl (Or.inl rfl) (QQ (qc D1_ hr (Qa (pv 0) (Qa (pv 1) Qc)))) (fun _ _ _ _ => Zd) (fun _ _ _ _ => (qc D2_ hr (Qa (pv 0) Qc))))
  (Qe (Qq (Qbd QfR rfl (QQ (pv 2)) (fun _ _ _ _ => (QcT (Qag (Qbz (pv 0))))) (fun _ _ _ _ => (pv 0)))))), ?_⟩
 refine ⟨_, rfl, _, rfl, p, A', S, i, b, rfl, hh, hb, hrow, fun l H1 s1 hl ht => ?_⟩
 obtain ⟨vs, hv, pr⟩ := ht
 have len := QG pr
 refine ⟨l, rfl, ⟨_, SqL.of hv⟩, ?_⟩
 refine ZE (xs := vs) (fun j ys H' => H' = H1 ∧ ys = (b.row.take j).map LW.T.nm) ⟨rfl, rfl⟩ ?_ (Nat.le_trans (by omega) (show 900 ≤ sizeLine by decide)) ?_ ?_ ?_
 ·rintro j ys H' ⟨_, rfl⟩
  rw [List.length_map, List.length_take]; omega
 ·rintro j ys H' _ ⟨rfl, _⟩
  exact SqL.of hv
 ·rintro j x ys H' hx ⟨rfl, rfl⟩
  obtain ⟨t, ht, tv⟩ := QM pr hx
  dsimp only [Qc0]
  refine QaK ⟨_, rfl, x, t, rfl, tv, ?_⟩
  exact ⟨rfl, by rw [Qde ht, List.map_append]; rfl⟩
 rintro ys H' ⟨rfl, rfl⟩ l2 hl2
 rw [← len, List.take_length]
 refine ⟨_, rfl, l2, rfl, ⟨_, SqL.of Qd⟩, ?_⟩
 refine ZE (xs := b.row.map LW.T.nm) (fun j ys H2 => H2 = upd H' l2 (.lst (b.row.map LW.T.nm)) ∧ ys = (QC (b.row.take j)).map V.int) ⟨rfl, rfl⟩ ?_ (Nat.le_trans (by rw [List.length_map]; omega) (show 900 ≤ sizeLine by decide)) ?_ ?_ ?_
 ·rintro j ys H2 ⟨_, rfl⟩
  have := QcZ (b.row.take j)
  rw [List.length_map]
  rw [List.length_take] at this
  omega
 ·rintro j ys H2 _ ⟨rfl, _⟩
  exact SqL.of Qd
 ·rintro j x ys H2 hx ⟨rfl, rfl⟩
  rw [List.getElem?_map] at hx
  cases ht : b.row[j]? with
  | none => rw [ht] at hx; cases hx
  | some t =>
   rw [ht] at hx
   obtain rfl : LW.T.nm t = x := Option.some.inj hx
   rw [Qde ht, Qax]
   cases t with
   | non => exact ⟨_, rfl, _, rfl, Qbg ⟨rfl, by simp [QC]⟩⟩
   | num m => exact ⟨_, rfl, _, rfl, Qbg ⟨rfl, by simp [QC]⟩⟩
   | box n => exact ⟨_, rfl, _, rfl, QaK ⟨_, rfl, rfl, by simp [QC]; rfl⟩⟩
 ·rintro ys H2 ⟨rfl, rfl⟩ l3 hl3
  rw [List.length_map, List.take_length]
  exact k l3 _ ((s1.trans (Same.new hl2)).trans (Same.new hl3)) ((s1.trans (Same.new hl2)).free hl3) Qd
theorem QhK {S : HS} {n : Int} (h : n ∈ names S) : ∃ (i : Nat) (b : Box), S.boxes[i]? = some b ∧ b.name = n := by
 obtain ⟨b, hb, e⟩ := List.mem_map.mp h
 obtain ⟨i, hi⟩ := List.getElem?_of_mem hb
 exact ⟨i, b, hi, e⟩
def walkMu : St → Nat
 | [_, _, _, _, some (.int k), _, _] => (901 - k).toNat
 | _ => 0
theorem Qkz (F : Fun K "walk" "walk" QeX f fd) (T : TX K mg C) (M1_ : MethOk P w K mg base C n "check_box" ["self", "name"] (Zl C) [[]])
  (D2_ : DefOk P w K mg base n "boxes_in" ["house", "name"] (Qhp C) [[]]) :
  FnOk P w K mg base CX0 (n + 1) f fd ["house", "name"] (Ql3 C) := by
 refine F.ok QaB (by rintro _ _ _ _ ⟨_, _, _, _, rfl, _⟩; rfl) fun _ _ _ s H vs Q E hr h => ?_
 obtain ⟨p, A', S, n0, rfl, hh, hn, hcl, few, k⟩ := h
 have hu := Qu hr
 refine ⟨_, (Qb (Qk (qm M1_ (pv 0) T.cl hr (Qa (pv 1) Qc)))
  (Qb (Qw (i := 2) QaB.nd rfl (Or.inl rfl) (Zu (Qa (pv 1) Qc)))
  (Qb (Qw (i := 3) QaB.nd rfl (Or.inl rfl) (QmS (Qlv (pv 1) Qce QmP) rfl rfl (by intro z; cases z) (by decide)))
  (Qb (Qw (i := 4) QaB.nd rfl (Or.inl rfl) Qi)
  (Qb (QiP PassesOwn.never (Qp QgN (pv 4) (Qo Qs (by rfl) T.g_len PySem.boot_len (Qa (pv 2) Qc)) (Qv _))
  (Qb (Qw (i := 5) QaB.nd rfl (Or.inl rfl) (Zf QN (pv 2) (pv 4) (fun _ _ => rfl)))
  (Qb (Q7 PassesOwn.never rfl (QQ (qc D2_ hr (Qa (pv 0) (Qa (pv 5) Qc)))) (QR (i := 6) QaB.nd rfl (Or.inl rfl))
  (Qe (QA (Qag (QdL hu (pv 6) (pv 3))) (Qb (Qcz hu (pv 3) (pv 6) Qce rfl)
  (Qe (Qk (Qfp PySem.F.plainAttrs_list PySem.F.slot_list_append PySem.F.type_list_append QaG (pv 2) (Qa (pv 6) Qc))))) Qn)))
  (Qe (Qme (i := 4) QaB.nd rfl (Or.inl rfl) Qi Qmp)))))
  (Qe (Qq (pv 2)))))))), ?_⟩
 have hin : ∀ j, ∀ y ∈ wk (QbF S.boxes) n0 j, y ∈ names S := Qjd hn (hcl.succ hh.nm)
 have hle : ∀ j, (wk (QbF S.boxes) n0 j).length ≤ S.boxes.length := fun j => by have := QlZ hn (hcl.succ hh.nm) j; unfold names at this; rwa [List.length_map] at this
 refine ⟨_, rfl, p, A'.dx, _, rfl, hh.ob, Qj, _, rfl, p, A', S, n0, rfl, hh, hn, ?_⟩
 refine ⟨_, rfl, zl, fun l hl => ?_⟩
 refine fun d hd => ?_
 refine ⟨_, rfl, Qd, [(Sum.inl n0, .bl true)], rfl, by show 1 ≤ 15; decide, ?_⟩
 have hd0 : H d = none := QaQ hd
 have ld : l ≠ d := Qf Qd hd
 refine QiA (fun σ H' => ∃ (j : Nat) (v5 v6 : Option V), σ = [some (.ref p), some (.int n0), some (.ref l), some (.ref d), some (.int j), v5, v6] ∧ Same H H' ∧ H' l = some (.lst ((wk (QbF S.boxes) n0 j).map V.int)) ∧ H' d = some (.dK (QdV (wk (QbF S.boxes) n0 j))) ∧ j ≤ (wk (QbF S.boxes) n0 j).length) (fun σ _ => walkMu σ) ?_ ?_ ?_
 ·refine ⟨0, none, none, rfl, fun x o e => ?_, ?_, Qd, Nat.zero_le _⟩
  ·rw [Qh (Qf e hd0), Qh (Qf e hd0), Qh (Qf e hl)]; exact e
  ·rw [Qh ld, Qh ld]; exact Qd
 ·rintro σ H1 ⟨j, v5, v6, rfl, s1, hl1, hd1, hj⟩
  refine ⟨_, rfl, _, rfl, l, _, rfl, .inl (SqL.of hl1), _, _, rfl, rfl, _, rfl, Qgr (fun h => ?_) (fun h => ?_)⟩
  ·have h : (j : Int) < (((wk (QbF S.boxes) n0 j).map V.int).length : Int) := of_decide_eq_true h
   rw [List.length_map] at h
   have hjl : j < (wk (QbF S.boxes) n0 j).length := by omega
   obtain ⟨c, hc⟩ : ∃ c, (wk (QbF S.boxes) n0 j)[j]? = some c := ⟨_, List.getElem?_eq_getElem hjl⟩
   obtain ⟨i, b, hb, rfl⟩ := QhK (hin j c (List.mem_of_getElem? hc))
   have ew := Qe2 hc
   rw [QgB hh.nm hb] at ew
   have hrow := (hcl b (List.mem_of_getElem? hb)).1
   refine ⟨_, rfl, _, rfl, l, _, j, .int b.name, rfl, rfl, SqL.of hl1, QZ (by rw [List.getElem?_map, hc]; rfl), ?_⟩
   refine ⟨_, rfl, _, rfl, p, A', S, i, b, rfl, hh.same s1, hb, hrow, fun lb H2 s2 hlb hL => ⟨lb, rfl, ⟨_, SqL.of hL⟩, ?_⟩⟩
   have bl : lb ≠ l := (Qf hl1 hlb).symm
   have bd : lb ≠ d := (Qf hd1 hlb).symm
   have lenA : ∀ i', (Qgz (wk (QbF S.boxes) n0 j) ((QC b.row).take i')).length ≤ S.boxes.length := fun i' => by
    have h1 : (Qgz (wk (QbF S.boxes) n0 j) ((QC b.row).take i')).Nodup := Qhc _ (QjN _ _ _)
    have h2 := QbJ h1 (m := names S) fun y hy => by
     rcases Qe0 _ hy with z | z
     ·exact hin j y z
     ·exact (hcl b (List.mem_of_getElem? hb)).2 y (Qap.mp (List.mem_of_mem_take z))
    unfold names at h2; rwa [List.length_map] at h2
   refine ZS (K := K) (xs := (QC b.row).map V.int) (fun i' σ H' => ∃ (v6 : Option V), σ = [some (.ref p), some (.int n0), some (.ref l), some (.ref d), some (.int j), some (.int b.name), v6] ∧ Same H H' ∧ H' l = some (.lst ((Qgz (wk (QbF S.boxes) n0 j) ((QC b.row).take i')).map V.int)) ∧ H' d = some (.dK (QdV (Qgz (wk (QbF S.boxes) n0 j) ((QC b.row).take i')))) ∧ H' lb = some (.lst ((QC b.row).map V.int))) ?_ ?_ ?_ ?_
   ·exact ⟨_, rfl, s1.trans s2, s2 _ _ hl1, s2 _ _ hd1, hL⟩
   ·rintro i' σ H3 _ ⟨_, rfl, _, _, _, h3⟩
    exact SqL.of h3
   ·rintro i' y σ H3 hy ⟨v6, rfl, s3, hl3, hd3, hb3⟩
    obtain ⟨m, hm, rfl⟩ : ∃ m, (QC b.row)[i']? = some m ∧ y = .int m := by
     rw [List.getElem?_map] at hy
     cases e : (QC b.row)[i']? with
     | none => rw [e] at hy; cases hy
     | some m => rw [e] at hy; exact ⟨m, rfl, (Option.some.inj hy).symm⟩
    refine ⟨_, rfl, _, rfl, d, _, rfl, DGet.k (k := Sum.inl m) hd3, _, rfl, ?_⟩
    rw [QhF, Qde hm, Qlf]
    have hlen := lenA i'
    generalize Qgz (wk (QbF S.boxes) n0 j) ((QC b.row).take i') = L at hl3 hd3 hlen ⊢
    by_cases hmL : m ∈ L
    ·rw [if_pos hmL, decide_eq_true hmL]
     exact Qbg ⟨_, rfl, s3, hl3, hd3, hb3⟩
    ·rw [if_neg hmL, decide_eq_false hmL]
     refine QaK ⟨_, rfl, _, rfl, d, _, rfl, DPut.k (k := Sum.inl m) hd3 (by rw [QdV, List.length_map]; exact QO (by omega)), ?_⟩
     rw [QkH hmL]
     have hl4 : (upd H3 d (.dK (QdV (L ++ [m])))) l = some (.lst (L.map V.int)) := by rw [Qh ld]; exact hl3
     refine ⟨_, rfl, .inl ⟨rfl, _, SqL.of hl4⟩, _, rfl, l, _, _, rfl, rfl, hl4, by rw [List.length_map]; exact QO (by omega), ?_⟩
     refine ⟨_, rfl, fun x o e => ?_, ?_, ?_, ?_⟩
     ·rw [Qh (Qf e hl), Qh (Qf e hd0)]; exact s3 _ _ e
     ·rw [Qd, List.map_append]; rfl
     ·rw [Qh ld.symm]; exact Qd
     ·rw [Qh bl, Qh bd]; exact hb3
   ·rintro σ H3 ⟨v6, rfl, s3, hl3, hd3, hb3⟩
    rw [List.length_map, List.take_length, ← ew] at hl3 hd3
    refine ⟨_, rfl, j, 1, rfl, rfl, ⟨j + 1, _, _, rfl, s3, hl3, hd3, ?_⟩, ?_⟩
    ·obtain ⟨ys, e⟩ := Qd5 (QC b.row) (wk (QbF S.boxes) n0 j)
     rw [ew, e, List.length_append]; omega
    ·have := hle j
     show (901 - ((j : Int) + 1)).toNat < (901 - (j : Int)).toNat
     omega
  ·have h : ¬ (j : Int) < (((wk (QbF S.boxes) n0 j).map V.int).length : Int) := fun z => h (decide_eq_true z)
   rw [List.length_map] at h
   have e : (wk (QbF S.boxes) n0 j).length = j := by omega
   refine ⟨_, rfl, k l H1 s1 hl ?_⟩
   rw [hl1]
   unfold Qa1
   rw [wk_end e (m := S.boxes.length) (by have := hle j; omega)]
 ·intro σ H1 Q1 Q2 hQ h
  obtain ⟨v, e1, v2, e2, y1, y2, e6, e7, z1, z2, e8, e9, z3, e10, z⟩ := h
  exact ⟨v, e1, v2, e2, y1, y2, e6, e7, z1, z2, e8, e9, z3, e10, hQ _ _ z⟩
end
end LW
namespace PySem
open Sem (wp)
namespace F
theorem plain_dict_loop : plainId "dict.update.loop" = true := by decide +kernel
theorem entry_dict_loop : entryFor table "dict.update.loop" = some Builtin.«dict.update.loop» := entryFor_of_fast (by kernel_rfl)
end F
theorem QhE : typeLookup (.type "list") "keys" = pure none := by rw [typeLookup_type, builtinLookup_eq_fast]; kernel_rfl
theorem QkJ {prog : Program} {w : World} {A : Around} {E : Value → Shared → Prop} {s : Shared} {a : Addr} {xs : Array Value} {k : Nat} {Q : Option Value → Shared → Prop}
  (hx : s.heap.get? a = some { cls := .type "list", dict := none, data := .seq xs k, slots := #[] }) (hA : A.handled = none)
  (h : ∀ h' tk, (∀ b o, s.heap.get? b = some o → h'.get? b = some o) → Q none { s with heap := h', toks := tk }) : wpAny (model prog w) A (getAttr? (.ref a) "keys") Q E s := by
 obtain ⟨hp, g, d, tk, os⟩ := s
 have hT : ∀ tk', (⟨hp, g, d, tk', os⟩ : Shared).TypeIs (.ref a) "list" := fun _ => ⟨_, hx, rfl⟩
 have f1 := sub_AttributeError
 have f3 := F.slot_list_getattribute.lookup
 have f4 := F.slot_list_getattribute.bind (.ref a)
 have f5 := am_list_getattr_none
 unfold getAttr? getAttrBy? getAttrBy
 repeat (any_goals (first | assumption | exact hT _ | ((with_reducible show wpAny _ _ (call (Value.builtin "list.__getattribute__") _ _) _ _ _); refine call_meets F.slot_list_getattribute (hT _) am_entry_list_getattribute (F.args_list_getattribute_2 _ _) (meets_getattribute_miss_list a xs k #[] "keys" _ QhE (by decide) (by decide)) ⟨hx, hA, fun h' tk' e hx' => ?_⟩) | wp_step))
 obtain ⟨t', u', he⟩ := hx'.there
 show wpAny _ _ (getattributeRaised _ _ _ _ _ _ _) _ _ _
 unfold getattributeRaised
 have hTe : ∀ tk'', (⟨h', g, d, tk'', os⟩ : Shared).TypeIs (.ref e) "AttributeError" := fun _ => ⟨_, he, rfl⟩
 repeat (any_goals (first | assumption | exact hTe _ | wp_step))
 all_goals exact h _ _ hx'.keeps
section
variable {prog : Program} {w : World} {K : Type} [DecidableEq K] {knd : KeyKind prog w K} {A : Around} {R : Result → Shared → Prop} {d I l : Addr} {its : Array Value} {ps : List (K × Value)} {res : Value} {h0 : Heap}
theorem Qgf (hA : A.in1.handled = none) (hdI : d ≠ I) (hdl : d ≠ l) (hlI : l ≠ I) (hsz : its.size = ps.length) (hl : h0.IsList l its) (hfew : ps.length ≤ sizeLine)
  (hP : ∀ (j : Nat) (kv : K × Value), ps[j]? = some kv → ∃ (T : Addr) (key : Value), its[j]? = some (.ref T) ∧ T ≠ d ∧ T ≠ I ∧ knd.is kv.1 key = true ∧ h0.IsTuple T #[key, kv.2]) :
  ∀ (k i : Nat) (s : Shared), ps.length - i = k → i ≤ ps.length → s.heap.IsListIter I l i → (∀ b o, b ≠ d → b ≠ I → h0.get? b = some o → s.heap.get? b = some o) → s.heap.DictOf knd d (merged [] (ps.take i)) →
   (∀ h' tk, h'.DictOf knd d (merged [] ps) → (∀ b o, b ≠ d → b ≠ I → s.heap.get? b = some o → h'.get? b = some o) → R (.ok (.ret res)) { s with heap := h', toks := tk }) →
   codeAny (model prog w) A (.builtin "dict.update.loop" ⟨[.ref d, .ref I, rawInt i, res], []⟩) R s := by
 intro k
 induction k with
 | zero =>
  intro i s hk hi hit kp hd hR
  obtain rfl : i = ps.length := by omega
  refine codeAny_builtin F.entry_dict_loop ?_
  rw [Around.under_plainId F.plain_dict_loop _]
  show wpAny _ A.in1 (pyNext (.ref I) >>= _) _ _ s
  refine wpAny_bind (wpAny_pyNext_list_end hA hit (hl.at fun o e => kp l o hdl.symm hlI e) (by simp [← hsz]) fun h' he' => ?_)
  rw [List.take_length] at hd
  exact wpAny_bind (wpAny_pure (wpAny_pure (hR h' s.toks (hd.extBut he' hdI) fun b o n1 n2 e => he' b o n2 e)))
 | succ k ih =>
  intro i s hk hi hit kp hd hR
  have hlt : i < ps.length := by omega
  obtain ⟨kv, hkv⟩ : ∃ kv, ps[i]? = some kv := ⟨_, List.getElem?_eq_getElem hlt⟩
  obtain ⟨T, key, hT, nTd, nTI, hkey, htup⟩ := hP i kv hkv
  refine codeAny_builtin F.entry_dict_loop ?_
  rw [Around.under_plainId F.plain_dict_loop _]
  show wpAny _ A.in1 (pyNext (.ref I) >>= _) _ _ s
  refine wpAny_bind (wpAny_pyNext_list_item hit (hl.at fun o e => kp l o hdl.symm hlI e) hT fun h' hit' hs' => ?_)
  have htup' : h'.IsTuple T #[key, kv.2] := (htup.at fun o e => kp T o nTd nTI e).extBut hs'.extBut nTI
  have hd' : h'.DictOf knd d (merged [] (ps.take i)) := hd.extBut hs'.extBut hdI
  show wpAny _ A.in1 (holding [Value.ref T] _ >>= _) _ _ _
  refine wpAny_bind (wpAny_holding ?_)
  have hTt : (Shared.mk h' s.gens s.drawn s.toks s.os).TypeIs (.ref T) "tuple" := htup'.typeIs
  refine wpAny_bind ?_
  have go : wpAny (model prog w) A.in1 (Builtin.Dict.pairItems (Value.ref T)) (fun a s' => a = [key, kv.2] ∧ s' = { s with heap := h' }) (fun _ _ => False) { s with heap := h' } := by
   unfold Builtin.Dict.pairItems
   obtain ⟨o, ho, hc, n, hdt⟩ := htup'
   refine wpAny_bind (wpAny_typeOf hTt ?_)
   simp only [show (Value.type "tuple" == Value.type "list" || Value.type "tuple" == Value.type "tuple") = true by decide, if_true]
   refine wpAny_bind (wpAny_seqItems ho hdt ?_)
   exact wpAny_pure ⟨rfl, rfl⟩
  refine wpAny_tryCatch (wpAny_mono go (fun a s' z => ?_) fun _ _ z => False.elim z)
  obtain ⟨rfl, rfl⟩ := z
  show wpAny _ A.in1 (holding [key, kv.2] (dictSet d key kv.2)) _ _ _
  refine wpAny_holding (wpAny_dictSet_pairs hkey hd' (fun h'' hd'' hs'' => ?_) ?_)
  ·have e : stored (merged [] (ps.take i)) kv.1 kv.2 = merged [] (ps.take (i + 1)) := (merged_take_succ [] ps i kv hkv).symm
   rw [e] at hd''
   refine wpAny_pure ⟨plainId_quiet F.plain_dict_loop _, ?_⟩
   show codeAny (model prog w) A (.builtin "dict.update.loop" ⟨[.ref d, .ref I, rawInt ((i + 1 : Nat) : Int), res], []⟩) R _
   refine ih (i + 1) _ (by omega) hlt (hit'.at fun o e => hs''.extBut I o hdI.symm e) (fun b o n1 n2 e => hs''.extBut b o n1 (hs'.extBut b o n2 (kp b o n1 n2 e))) hd'' fun h3 tk hd3 k3 => ?_
   exact hR h3 tk hd3 fun b o n1 n2 e => k3 b o n1 n2 (hs''.extBut b o n1 (hs'.extBut b o n2 e))
  ·have := merged_length_le ([] : List (K × Value)) (ps.take i)
   rw [List.length_take] at this
   simp only [List.length_nil] at this
   omega
theorem QfP {E : Value → Shared → Prop} {s : Shared} {c : Nat} {Q : Value → Shared → Prop} (hA : A.handled = none) (hl : s.heap.get? l = some { cls := .type "list", dict := none, data := .seq its c, slots := #[] }) (hsz : its.size = ps.length) (hfew : ps.length ≤ sizeLine) (hn : (ps.map (·.1)).Nodup)
  (hP : ∀ (j : Nat) (kv : K × Value), ps[j]? = some kv → ∃ (T : Addr) (key : Value), its[j]? = some (.ref T) ∧ knd.is kv.1 key = true ∧ s.heap.IsTuple T #[key, kv.2])
  (h : ∀ h' tk, h'.DictOf knd s.heap.objs.size ps → (∀ b o, s.heap.get? b = some o → h'.get? b = some o) → Q (.ref s.heap.objs.size) { s with heap := h', toks := tk }) :
  wpAny (model prog w) A (call (.type "dict") [.ref l]) Q E s := by
 refine callType_codes (Q₁ := fun obj s₁ => obj = .ref s.heap.objs.size ∧ s₁ = { s with heap := s.heap.push { cls := .type "dict", data := .dict #[] } }) F.kt_called_dict (F.kt_typeCall_dict_1 _) F.entry_dict_init (kt_code_dict_new _ ⟨rfl, rfl⟩) ?_
 rintro obj s₁ ⟨rfl, rfl⟩
 have hnew : (s.heap.push { cls := .type "dict", data := .dict #[] }).DictOf knd s.heap.objs.size [] := Heap.DictOf.new s.heap
 refine ⟨hnew.typeIs, F.args_dict_init_2 _ _, ?_⟩
 unfold Builtin.«dict.__init__»
 refine wpAny_bind ?_
 unfold Builtin.Dict.selfAndRest
 refine wpAny_bind (wpAny_notOrdered_dict hnew.typeIs ?_)
 show wpAny _ _ (pure (s.heap.objs.size, [Value.ref l])) _ _ _
 refine wpAny_pure ?_
 show wpAny _ _ (Builtin.Dict.updateFrom "dict.__init__" s.heap.objs.size (.ref l) [] .none) _ _ _
 unfold Builtin.Dict.updateFrom
 have hT1 : (Shared.mk (s.heap.push { cls := .type "dict", data := .dict #[] }) s.gens s.drawn s.toks s.os).TypeIs (.ref l) "list" := ⟨_, Heap.get?_push_of_some _ hl, rfl⟩
 refine wpAny_bind (wpAny_typeOf hT1 ?_)
 rw [if_pos (by decide)]
 refine wpAny_bind (QkJ (s := { s with heap := s.heap.push { cls := .type "dict", data := .dict #[] } }) (Heap.get?_push_of_some _ hl) (show A.in1.in1.handled = none from hA) fun h1 tk1 k1 => ?_)
 rw [if_pos (show (none : Option Value).isNone = true from rfl)]
 refine wpAny_bind (wpAny_rule ?_)
 have hl1 : h1.IsList l its := ⟨_, k1 _ _ (Heap.get?_push_of_some _ hl), rfl, _, rfl⟩
 refine wpAny_bind (wpAny_pyIter_list (s := { s with heap := h1, toks := tk1 }) hl1 ?_)
 refine wpAny_pure ⟨plainId_quiet F.plain_dict_loop _, ?_⟩
 have hd1 : h1.DictOf knd s.heap.objs.size [] := hnew.keep k1
 have kp1 : ∀ b o, s.heap.get? b = some o → h1.get? b = some o := fun b o e => k1 b o (Heap.get?_push_of_some _ e)
 have lt : ∀ b o, s.heap.get? b = some o → b < s.heap.objs.size := fun b o e => Heap.lt_size e
 have hds : s.heap.objs.size < h1.objs.size := by obtain ⟨o, _, _, ho, _⟩ := hd1; exact Heap.lt_size ho
 have hll : l < s.heap.objs.size := lt _ _ hl
 refine Qgf (A := A.in1) (h0 := h1.push { cls := .type "list_iterator", data := .fields #[.ref l, .int 0 0] }) (show A.in1.in1.handled = none from hA) (Nat.ne_of_lt hds) (Nat.ne_of_gt hll) (Nat.ne_of_lt (Nat.lt_trans hll hds)) hsz (hl1.at fun o e => Heap.get?_push_of_some _ e) hfew (fun j kv hj => ?_) ps.length 0 _ rfl (Nat.zero_le _) ⟨_, Heap.get?_push_size _ rfl, rfl, rfl⟩ (fun b o _ _ e => e) (hd1.push _) fun h' tk hd' k' => ?_
 ·obtain ⟨T, key, e1, e2, e3⟩ := hP j kv hj
  have hTl : T < s.heap.objs.size := by obtain ⟨o, ho, _⟩ := id e3; exact lt _ _ ho
  exact ⟨T, key, e1, Nat.ne_of_lt hTl, Nat.ne_of_lt (Nat.lt_trans hTl hds), e2, e3.at fun o e => Heap.get?_push_of_some _ (kp1 _ _ e)⟩
 ·rw [merged_nil_of_nodup ps hn] at hd'
  refine ⟨rfl, h h' tk hd' fun b o e => ?_⟩
  have := lt b o e
  exact k' b o (Nat.ne_of_lt this) (Nat.ne_of_lt (Nat.lt_trans this hds)) (Heap.get?_push_of_some _ (kp1 b o e))
end
end PySem
namespace L2
open PySem PySem.Spec PyProof.Rows PySem.W
theorem QiC : ∀ {as : List Addr} {its : List Value}, Vals (as.map V.ref) its → its = as.map Value.ref
 | [], _, .nil => rfl
 | _ :: _, _, .cons r t => by rw [QiC t]; cases r; rfl
section
variable {X : Cx} {pins : Pn} {σ : St} {H : Hp} {s : Shared}
theorem QiW (I : Inv X pins σ H s) : ∀ {kvs : List (Key × V)} {as : List Addr}, Paired (fun (kv : Key × V) (a : Addr) => H a = some (.tup [kV kv.1, kv.2])) kvs as →
  ∃ ps : List (Key × Value), KV kvs ps ∧ ∀ (j : Nat) (kv : Key × Value), ps[j]? = some kv → ∃ (T : Addr) (key : Value), as[j]? = some T ∧ (QS X.prog X.w).is kv.1 key = true ∧ s.heap.IsTuple T #[key, kv.2]
 | _, _, .nil => ⟨[], .nil, fun j kv h => by simp at h⟩
 | _, _, .cons (a := kv) (b := a) h t => by
  obtain ⟨ps, r, f⟩ := QiW I t
  obtain ⟨its, r1, p1, _⟩ := I.tuple (SqT.of h)
  obtain ⟨u, w', rfl, ru, rw'⟩ := Qll r1
  refine ⟨(kv.1, w') :: ps, .cons ⟨rfl, rw'⟩ r, fun j kv' hj => ?_⟩
  cases j with
  | zero =>
   have hj : (kv.1, w') = kv' := by simpa using hj
   subst hj
   exact ⟨a, u, rfl, QfL ru, p1⟩
  | succ j =>
   obtain ⟨T, key, e1, e2, e3⟩ := f j kv' (by simpa using hj)
   exact ⟨T, key, by simpa using e1, e2, e3⟩
theorem QjA (hA : X.A.handled = none) : QfU X (.type "dict") (fun xs H Q => ∃ (l : Addr) (as : List Addr) (kvs : List (Key × V)), xs = [.ref l] ∧ H l = some (.lst (as.map V.ref)) ∧ Paired (fun (kv : Key × V) (a : Addr) => H a = some (.tup [kV kv.1, kv.2])) kvs as ∧ (kvs.map (·.1)).Nodup ∧ ∀ d, H d = none → Q (.ref d) (upd H d (.dK kvs))) := by
 intro pins s σ H xs us Q I r h
 obtain ⟨l, as, kvs, rfl, hl, pr, nd, q⟩ := h
 obtain ⟨u, rfl, rx⟩ := Qhj r
 cases rx
 obtain ⟨z, its, c, r', hl', e⟩ := I.lstM hl
 obtain rfl := QiC r'
 obtain ⟨ps, rel, f⟩ := QiW I pr
 have l1 : kvs.length = ps.length := Paired.length rel
 have l2 : kvs.length = as.length := Paired.length pr
 have lz : ps.length ≤ sizeLine := by rw [List.length_map] at z; omega
 have nd' : (ps.map (·.1)).Nodup := by
  have : ∀ {kvs : List (Key × V)} {ps : List (Key × Value)}, KV kvs ps → ps.map (·.1) = kvs.map (·.1) := fun rel => by
   induction rel with
   | nil => rfl
   | cons h t ih => simp only [List.map_cons]; rw [ih, h.1]
  rw [this rel]; exact nd
 refine QfP (knd := QS X.prog X.w) (ps := ps) hA e (by simp; omega) lz nd' (fun j kv hj => ?_) fun h' tk hd kp => ?_
 ·obtain ⟨T, key, e1, e2, e3⟩ := f j kv hj
  exact ⟨T, key, by simp [e1], e2, e3⟩
 ·exact ⟨.ref s.heap.objs.size, _, I.laid (t' := tk) kp (Nat.le_refl _) (QhR (by omega) (beq_eq_false_iff_ne.mpr (Ne.symm (Nat.ne_of_lt I.big))) rel hd), rfl, q _ (I.hok.fresh (Nat.le_refl _))⟩
end
end L2
namespace L2
open PySem PySem.Spec PyProof.Rows
structure Qbf (osc : Scope) (oN : List Str) (sc : Scope) (x y : Str) (N : List Str) (fr : List Nat) : Prop where
 kind : sc.kind = .function
 nocell : ∀ z ∈ sc.names, z.2 ≠ .cell
 names : ∀ z ∈ sc.names, z.2 = .local → sc.names.lookup z.1 = some .local
 free : ∀ z ∈ sc.names, z.2 = .free → osc.names.lookup z.1 = some .cell
 xl : sc.names.lookup x = some .local
 yl : sc.names.lookup y = some .local
 nd : (x :: y :: N).Nodup
 ix : fr.map (fun i => oN[i]?) = N.map some
 fk : ∀ z ∈ N, sc.names.lookup z = some .free
section
variable {X : Cx} {pins : Pn} {σ : St} {H : Hp} {s : Shared} {sc : Scope} {x yy : Str} {N : List Str} {fr : List Nat} {C : Addr} {ex : List Addr}
theorem Inv.cells2 (I : Inv X pins σ H s) (S : Qbf X.env.scope X.N sc x yy N fr) : Qd7 X.env sc.names := fun y hy hk => I.ok.has y.1 (.inl (S.free y hy hk))
theorem Inv.clos2 (I : Inv X pins σ H s) (S : Qbf X.env.scope X.N sc x yy N fr) {y : Str} {c : Addr} (h : (Qdd X.env sc.names []).lookup y = some c) : X.env.cells.lookup y = some c := by
 rcases QfO (I.cells2 S) h with q | q
 ·exact q
 ·simp at q
theorem Qm6 (I : Inv X pins σ H s) (S : Qbf X.env.scope X.N sc x yy N fr) (hC : s.heap.objs.size ≤ C) (hf : ∀ b ∈ ex, Qhe X pins H b) (hlt : ∀ b ∈ ex, b < s.heap.objs.size) : (blk X sc (x :: yy :: N) C ex s H).Ok where
 mod := I.ok.mod
 kind := S.kind
 glob := I.ok.glob
 blt := I.ok.blt
 above := hC
 inj := fun a b c h1 h2 => I.ok.inj a b c (I.clos2 S h1) (I.clos2 S h2)
 has := fun y hy => by
  have hfree : sc.names.lookup y = some .free := by
   rcases hy with hy | hy
   ·rcases Qan (env := X.env) (names := sc.names) hy with q | q
    ·exact absurd rfl (S.nocell _ (PySem.mem_of_lookup q))
    ·exact q
   ·rcases Qan (env := X.env) (names := sc.names) hy with q | q
    ·exact q
    ·exact q
  obtain ⟨c, hc⟩ := I.cells2 S (y, .free) (PySem.mem_of_lookup hfree) rfl
  exact ⟨c, QdZ hc (.inl (PySem.mem_of_lookup hfree))⟩
 cab := fun _ _ h => absurd (show false = true from h) Bool.false_ne_true
 hd := I.ok.hd
 frames := I.ok.frames
 stk := .inl rfl
 exf := fun b hb => ⟨Nat.ne_of_lt (Nat.lt_of_lt_of_le (hlt b hb) hC), fun y c h z => (hf b hb).2.2.2.2.1 y c (I.clos2 S h) z⟩
 bs := I.bs
 bsz := Nat.le_trans I.ok.bsz I.sz
 noex := fun b o e hb => by
  rcases (hf b hb).2.2.2.1 with z | z
  ·exact I.ok.noex b o e z
  ·exact absurd (Nat.lt_of_lt_of_le (Heap.lt_size e) (Nat.le_trans I.ok.bsz z)) (Nat.lt_irrefl _)
 exfs := fun b hb z => by
  rcases List.mem_cons.mp (I.stkSub b z) with q | q
  ·exact (hf b hb).2.1 q
  ·exact (hf b hb).2.2.1 q
 funs := I.stack
 frf := I.stkFree
theorem QjE (I : Inv X pins σ H s) (S : Qbf X.env.scope X.N sc x yy N fr) (hC : s.heap.objs.size ≤ C) (hf : ∀ b ∈ ex, Qhe X pins H b) (hlt : ∀ b ∈ ex, b < s.heap.objs.size) {h' : Heap} {t' : Nat}
    (hn : ∃ m, h'.Ns C m) (k : ∀ b o, s.heap.get? b = some o → h'.get? b = some o) : Inv (blk X sc (x :: yy :: N) C ex s H) [] (none :: none :: Qc1 σ fr) H { s with heap := h', toks := t' } := by
  obtain ⟨m, hn⟩ := hn
  have hlen : fr.length = N.length := by have := congrArg List.length S.ix; simpa using this
  refine ⟨Qm6 I S hC hf hlt, rfl, I.bare, Un.kept k, ⟨m, hn, fun i y v h1 h2 h3 => ?_⟩, fun y c h => ?_, I.hok.fresh hC, fun y c h => I.freeC y c (I.clos2 S h), fun p hp => absurd (show p ∈ ([] : Pn) from hp) (by simp), I.hok.kept k, ?_⟩
  · cases i with
    | zero => cases (show some (none : Option V) = some (some v) from h2)
    | succ i => cases i with
     | zero => cases (show some (none : Option V) = some (some v) from h2)
     | succ i =>
      have h2 : (Qc1 σ fr)[i]? = some (some v) := h2
      have h1 : N[i]? = some y := h1
      obtain ⟨j, hj, hv⟩ := QiN h2
      have e1 : (fr.map fun i => X.N[i]?)[i]? = (N.map some)[i]? := by rw [S.ix]
      rw [List.getElem?_map, List.getElem?_map, hj, h1] at e1
      have e1 : X.N[j]? = some y := Option.some.inj e1
      have hfree := S.fk y (List.mem_of_getElem? h1)
      have hcell : X.env.scope.names.lookup y = some .cell := S.free (y, .free) (PySem.mem_of_lookup hfree) rfl
      obtain ⟨m0, _, hl⟩ := I.loc
      obtain ⟨u, ru, l⟩ := hl j y v e1 hv (.inr (.inl hcell))
      refine ⟨u, ru, ?_⟩
      rcases l with ⟨q, _⟩ | ⟨_, c, hc, o, ho, hd⟩
      · have q : X.env.scope.names.lookup y = some .local := q
        rw [hcell] at q
        cases q
      · exact .inr ⟨.inl (Qcx I.ok.kind hfree hcell), c, QdZ hc (.inl (PySem.mem_of_lookup hfree)), o, k _ o ho, hd⟩
  · obtain ⟨v, o, ho, hd⟩ := I.cell y c (I.clos2 S h)
    exact ⟨v, o, k _ o ho, hd⟩
  · show (none :: none :: Qc1 σ fr).length = (x :: yy :: N).length
    unfold Qc1
    rw [List.length_cons, List.length_cons, List.length_map, hlen, List.length_cons, List.length_cons]
end
def QjV (fr : List Nat) (tc : TT) (te : TE) (σ : St) (Q : VK) : It → Hp → Prop := fun J H1 => ∃ W : Nat → Nat → List V → Hp → Prop, (∃ m, W 0 m [] H1) ∧ ∀ i m ys H, W i m ys H →
 (J.stop i H ∧ ys.length ≤ sizeLine ∧ ∀ p, H p = none → Q (.ref p) (upd H p (.lst ys))) ∨
 (J.go i H ∧ ys.length < sizeLine ∧ ∃ N : List V → Hp → Prop, (∀ ys' H', N ys' H' → ∃ m', m' < m ∧ W (i + 1) m' ys' H') ∧ ∀ v H', J.yld i H v H' → ∃ p a b, v = .ref p ∧ H' p = some (.tup [a, b]) ∧ tc (some a :: some b :: Qc1 σ fr) H' fun c H2 =>
  if c = true then te (some a :: some b :: Qc1 σ fr) H2 fun y H3 => N (ys ++ [y]) H3 else N ys H2)
def tComp2 (wi : TI) (fr : List Nat) (tc : TT) (te : TE) : TE := fun σ H Q => wi σ H (QjV fr tc te σ Q)
section
variable {X : Cx} {elt iter : Expr} {x yy : Str} {px py tp pos : Pos} {tk : Nat} {ifs : List Expr} {sc : Scope} {N : List Str} {fr : List Nat} {wi : TI} {tc : TT} {te : TE}
theorem Qjy (S : Qbf X.env.scope X.N sc x yy N fr) (hcalm : X.calm = true) (hc : ∀ C ex s H, Qnb (blk X sc (x :: yy :: N) C ex s H) ifs tc) (he : ∀ C ex s H, PE (blk X sc (x :: yy :: N) C ex s H) elt te)
  {pins : Pn} {σ : St} {H : Hp} {s : Shared} {E : Value → Shared → Prop} {it : Addr} {fp : List Addr} {tn : Nat → Heap → Prop} {J : It} {Q : VK} {RR : Value → Addr → Result → Shared → Prop}
  (I : Inv X pins σ H s) (T : Qm9 X.prog X.w X.K (.Tuple [.Name x px, .Name yy py] tk tp) J fp it tn) (st : tn 0 s.heap) (f2 : ∀ b ∈ fp, Qhe X pins H b)
  (hW : ∃ W : Nat → Nat → List V → Hp → Prop, (∃ m, W 0 m [] H) ∧ ∀ i m ys H, W i m ys H →
   (J.stop i H ∧ ys.length ≤ sizeLine ∧ ∀ p, H p = none → Q (.ref p) (upd H p (.lst ys))) ∨
   (J.go i H ∧ ys.length < sizeLine ∧ ∃ N : List V → Hp → Prop, (∀ ys' H', N ys' H' → ∃ m', m' < m ∧ W (i + 1) m' ys' H') ∧ ∀ v H', J.yld i H v H' → ∃ p a b, v = .ref p ∧ H' p = some (.tup [a, b]) ∧ tc (some a :: some b :: Qc1 σ fr) H' fun c H2 =>
    if c = true then te (some a :: some b :: Qc1 σ fr) H2 fun y H3 => N (ys ++ [y]) H3 else N ys H2))
  (hRR : ∀ (D C : Addr) (H' : Hp) (s' : Shared), Inv X pins σ H' s' → (∃ o, s'.heap.get? C = some o ∧ (∃ m, s'.heap.Ns C m) ∧ ∀ v, o.data ≠ .cell v) → Qhe X pins H' C → Q (.ref D) H' → RR (.ref D) C (.ok .next) s') :
  wpAny (model X.prog X.w) X.A (newList []) (fun acc s₃ => wpAny (model X.prog X.w) X.A (newFunctionEnv sc X.env.globals (Qdd X.env sc.names []) [] X.env.qual none .none (some X.env)) (fun cenv s₄ =>
   codeAny (model X.prog X.w) X.A (.compStart (.ListComp elt [⟨.Tuple [.Name x px, .Name yy py] tk tp, iter, ifs, 0⟩] sc pos) 0 (.ref it) acc { cenv with scope := relabel sc X.env }) (RR acc cenv.locals) s₄) E s₃) E s := by
 obtain ⟨W, ⟨m0, w0⟩, turn⟩ := hW
 have hlt : ∀ b ∈ fp, b < s.heap.objs.size := fun b hb => let ⟨o, e, _⟩ := T.obj _ _ st b hb; Heap.lt_size e
 refine wpAny_newObj_type (wpAny_newFunctionEnv S.nocell (by intro y hy; simp at hy) (fun h₁ hns₁ hsb₁ => ?_) S.kind)
 dsimp only at hns₁ hsb₁ ⊢
 generalize hH2 : s.heap.push { cls := .type "list", dict := none, data := .seq ([] : List Value).toArray } = H2 at hns₁ hsb₁ ⊢
 have hC : H2.objs.size = s.heap.objs.size + 1 := by rw [← hH2, Heap.size_push]
 have hDC : s.heap.objs.size ≠ H2.objs.size := by rw [hC]; exact Nat.ne_of_lt (Nat.lt_succ_self _)
 have hCle : s.heap.objs.size ≤ H2.objs.size := by rw [hC]; exact Nat.le_succ _
 have old : ∀ b o, s.heap.get? b = some o → h₁.get? b = some o := fun b o e =>
  hsb₁.extBut b o (by rw [hC]; exact Nat.ne_of_lt (Nat.lt_succ_of_lt (Heap.lt_size e))) (Heap.get?_push_of_some _ (hH2 ▸ Heap.get?_push_of_some _ e))
 have eD : h₁.get? s.heap.objs.size = some (lob [] 0) := hsb₁.extBut _ _ hDC (Heap.get?_push_of_some _ (hH2 ▸ Heap.get?_push_size _ rfl))
 have fpX : ∀ {H' : Hp} {o : Obj}, (∀ b ∈ fp, H' b = none) → ∀ b ∈ fp, Qhe (blk X sc (x :: yy :: N) H2.objs.size fp s H) [(s.heap.objs.size, o)] H' b := fun {H' o} hn b hb => by
  refine ⟨hn b hb, Nat.ne_of_lt (Nat.lt_of_lt_of_le (hlt b hb) hCle), fun z => ?_, .inl hb, fun y c h => (f2 b hb).2.2.2.2.1 y c (I.clos2 S h), fun p hp z => ?_⟩
  ·rcases List.mem_cons.mp (I.stkSub b z) with q | q
   ·exact (f2 b hb).2.1 q
   ·exact (f2 b hb).2.2.1 q
  ·have hp : p = (s.heap.objs.size, o) := by simpa using (show p ∈ [] ++ [(s.heap.objs.size, o)] from hp)
   subst hp
   exact absurd (hlt b hb) (by rw [← z]; exact Nat.lt_irrefl _)
 have pinD : ∀ {pl : Pn} {σ' : St} {H' : Hp} {s' : Shared} {its : List Value} {n : Nat}, Inv (blk X sc (x :: yy :: N) H2.objs.size fp s H) pl σ' H' s' → s'.heap.get? s.heap.objs.size = some (lob its n) → H' s.heap.objs.size = none →
   Inv (blk X sc (x :: yy :: N) H2.objs.size fp s H) [(s.heap.objs.size, lob its n)] σ' H' s' := fun {pl σ' H' s' its n} J' e hn => by
  refine J'.pins_of fun p hp => ?_
  have hp : p = (s.heap.objs.size, lob its n) := by simpa using hp
  subst hp
  refine ⟨e, hn, hDC, fun z => ?_, fun v z => by cases z⟩
  obtain ⟨_, o, ho, _⟩ := I.stack.mem z
  exact absurd (Heap.lt_size ho) (Nat.lt_irrefl _)
 have IX : Inv (blk X sc (x :: yy :: N) H2.objs.size fp s H) [(s.heap.objs.size, lob [] 0)] (none :: none :: Qc1 σ fr) H { s with heap := h₁, toks := s.toks + ([] : List (Str × Value)).length } :=
  pinD (QjE I S hCle f2 hlt ⟨_, hns₁⟩ old) eD (I.hok.fresh (Nat.le_refl _))
 have st₁ : tn 0 h₁ := T.keep _ _ _ st fun b _ o e => old b o e
 have loop : ∀ s₃ : Shared, s₃ = { s with heap := h₁, toks := s.toks + ([] : List (Str × Value)).length } →
   codeAny (model X.prog X.w) X.A (.compLoop (.ListComp elt [⟨.Tuple [.Name x px, .Name yy py] tk tp, iter, ifs, 0⟩] sc pos) 0 (.ref it) (.ref s.heap.objs.size) (blk X sc (x :: yy :: N) H2.objs.size fp s H).env)
    (RR (.ref s.heap.objs.size) H2.objs.size) s₃ := by
  rintro s₃ rfl
  refine QhS (fun n s' => ∃ i v0 v1 its c ys H', Inv (blk X sc (x :: yy :: N) H2.objs.size fp s H) [(s.heap.objs.size, lob its c)] (v0 :: v1 :: Qc1 σ fr) H' s' ∧ Vals ys its ∧ tn i s'.heap ∧ (∀ b ∈ fp, H' b = none) ∧ W i n ys H') ?_ m0
   ⟨0, none, none, [], 0, [], H, IX, .nil, st₁, fun b hb => (f2 b hb).1, w0⟩
  rintro n s4 ⟨i, v0, v1, its, c, ys, H4, I4, rv, st4, fr4, w4⟩
  have pD := I4.pin (s.heap.objs.size, lob its c) (List.mem_append_right _ (List.mem_singleton.mpr rfl))
  rcases turn i n ys H4 w4 with ⟨stop, hz, fin⟩ | ⟨go, hz, NN, hNN, step⟩
  ·refine thn (T.done (blk X sc (x :: yy :: N) H2.objs.size fp s H) rfl rfl rfl hcalm i _ s4 _ H4 NoE I4 (fpX fr4) st4 stop) fun r s5 ⟨hr, I5⟩ => ?_
   subst hr
   obtain ⟨e5, n5, _⟩ := I5.pin (s.heap.objs.size, lob its c) (List.mem_append_right _ (List.mem_singleton.mpr rfl))
   have e5 : s5.heap.get? s.heap.objs.size = some (lob its c) := e5
   have n5 : H4 s.heap.objs.size = none := n5
   have IF : Inv X pins σ (upd H4 s.heap.objs.size (.lst ys)) s5 := I.call' (ch := fp) I5.os (Un.track I5.base n5 (Nat.le_refl _)) (HOk.track I5.hok n5 ⟨hz, its, c, rv, e5⟩) I5.bare
    fun b hb => ⟨(f2 b hb).2.2.2.1, (f2 b hb).2.1, (f2 b hb).2.2.2.2.1, (f2 b hb).2.2.2.2.2⟩
   obtain ⟨mC, nsC, _⟩ := I5.loc
   obtain ⟨oC, esC, epC, hoC, hdC, _⟩ := id nsC
   refine hRR _ _ _ s5 IF ⟨oC, hoC, ⟨mC, nsC⟩, fun v z => by rw [hdC] at z; cases z⟩ (I.fpOk hCle ?_) (fin _ n5)
   rw [Qh (Ne.symm hDC)]
   exact I5.free
  ·refine thn (T.item (blk X sc (x :: yy :: N) H2.objs.size fp s H) rfl rfl rfl hcalm i _ s4 _ H4 NoE I4 (fpX fr4) st4 go) fun r s5 ⟨u, hr, h5⟩ => ?_
   subst hr
   refine thn h5 fun _ s6 ⟨v, H6, I6, r6, y6, st6, fr6⟩ => ?_
   have I6' := I6.pinned (fpX fr6) (T.obj _ _ st6)
   obtain ⟨pp, va, vb, ev, hpp, hstep⟩ := step v H6 y6
   refine wpAny_mono (QcA (X := blk X sc (x :: yy :: N) H2.objs.size fp s H) (i := 0) (j := 1) (px := px) (py := py) (pos := tp) (k := tk) hcalm S.nd rfl rfl (.inl (lookup_relabel_local S.xl)) (.inl (lookup_relabel_local S.yl)) (.inr (lookup_relabel_local S.xl)) (.inr (lookup_relabel_local S.yl)) _ s6 _ H6 v u (fun σ7 H7 => σ7 = some va :: some vb :: Qc1 σ fr ∧ H7 = H6) I6' r6 ⟨pp, va, vb, ev, hpp, rfl, rfl⟩) (fun _ s7 ⟨σ7, H7, I7, e7, e7'⟩ => ?_) fun _ _ z => False.elim z
   subst e7 e7'
   refine thn (hc _ _ _ _ _ s7 _ _ _ I7 hstep) fun b s8 ⟨H8, I8, q8⟩ => ?_
   have atFp : ∀ {σ' : St} {H' : Hp} {s' : Shared}, Inv (blk X sc (x :: yy :: N) H2.objs.size fp s H) ([(s.heap.objs.size, lob its c)] ++ Qfn fp s6.heap) σ' H' s' → tn (i + 1) s'.heap ∧ ∀ b ∈ fp, H' b = none := fun {σ' H' s'} J' => by
    refine ⟨T.keep _ _ _ st6 fun b hb o e => (J'.pin (b, o) (List.mem_append_right _ (List.mem_append_right _ (Qa0 hb e)))).1, fun b hb => ?_⟩
    obtain ⟨o, e, _⟩ := T.obj _ _ st6 b hb
    exact (J'.pin (b, o) (List.mem_append_right _ (List.mem_append_right _ (Qa0 hb e)))).2.1
   cases b with
   | false =>
    have q8 : NN ys H8 := q8
    obtain ⟨m', hm, w8⟩ := hNN _ _ q8
    obtain ⟨a1, a2⟩ := atFp I8
    exact ⟨m', hm, i + 1, some va, some vb, its, c, ys, H8, I8.unpinned, rv, a1, a2, w8⟩
   | true =>
    refine thn (he _ _ _ _ _ s8 _ H8 _ I8 q8) fun y s9 ⟨yv, H9, I9, r9, q9⟩ => ?_
    obtain ⟨m', hm, w9⟩ := hNN _ _ q9
    obtain ⟨e9, n9, _⟩ := I9.pin (s.heap.objs.size, lob its c) (List.mem_append_right _ (List.mem_append_left _ (List.mem_singleton.mpr rfl)))
    have e9 : s9.heap.get? s.heap.objs.size = some (lob its c) := e9
    have n9 : H9 s.heap.objs.size = none := n9
    obtain ⟨a1, a2⟩ := atFp I9
    have hl : ys.length = its.length := rv.length
    refine call_meets F.slot_list_append ⟨_, e9, rfl⟩ F.entry_list_append (F.args_list_append_2 _ _) (PySem.list_append s.heap.objs.size its.toArray c y (by rw [List.size_toArray]; omega)) ⟨e9, ?_⟩
    have q := PySem.IsL.update e9 (·.push y)
    have hpush : its.toArray.push y = (its ++ [y]).toArray := by simp
    rw [hpush] at q
    have kO : ∀ b o, b ≠ s.heap.objs.size → s9.heap.get? b = some o → (s9.heap.update s.heap.objs.size (Obj.mapSeq (·.push y))).get? b = some o := fun b o hb e => (Heap.get?_update_other s9.heap _ (Ne.symm hb)).trans e
    have J1 : Inv (blk X sc (x :: yy :: N) H2.objs.size fp s H) [] (some va :: some vb :: Qc1 σ fr) H9 s9 := I9.pins_of fun p hp => absurd hp (by simp)
    have J2 := J1.turned (it := s.heap.objs.size) (t' := s9.toks) kO n9 hDC (.inr (Nat.le_refl _)) (fun z cc h e => by
     obtain ⟨vv, o, ho, _⟩ := I.cell z cc (I.clos2 S h)
     exact absurd (Heap.lt_size ho) (by rw [e]; exact Nat.lt_irrefl _)) (fun p hp => absurd (show p ∈ ([] : Pn) from hp) (by simp))
    refine ⟨m', hm, i + 1, some va, some vb, its ++ [y], _, ys ++ [yv], H9, pinD J2 q n9, rv.append (.cons r9 .nil), T.keep _ _ _ a1 fun b hb o e => kO b o (Nat.ne_of_lt (hlt b hb)) e, a2, w9⟩
 exact codeAny_compStart_list (loop _ rfl) (T.self _ 0 _ _ _ st₁ (loop _ rfl))
theorem QlA (S : Qbf X.env.scope X.N sc x yy N fr) (hcalm : X.calm = true) (hi : PI X (.Tuple [.Name x px, .Name yy py] tk tp) iter wi) (hc : ∀ C ex s H, Qnb (blk X sc (x :: yy :: N) C ex s H) ifs tc) (he : ∀ C ex s H, PE (blk X sc (x :: yy :: N) C ex s H) elt te)
  (hs : ∀ v, foldedSetIterable iter X.env v = pure v := by intro _; rfl) : PE X (.ListComp elt [⟨.Tuple [.Name x px, .Name yy py] tk tp, iter, ifs, 0⟩] sc pos) (tComp2 wi fr tc te) := by
 intro pins s σ H Q I h
 rw [eval_ListComp]
 refine wpAny_comprehension_free (use := none) rfl hs (Qix (I.cells2 S)) S.kind S.names (thn (hi pins s σ H _ I h) fun v s1 h1 => thn h1 fun itv s2 h2 => ?_)
 obtain ⟨it, fp, tn, J, H2, e, I2, T, st2, f2, hW⟩ := h2
 subst e
 refine Qjy (RR := fun acc C => compPost (model X.prog X.w) X.A X.xe none (EP X pins σ Q) acc C) S hcalm hc he I2 T st2 f2 hW fun D C H' s' I' ⟨o, ho, ⟨m, hn⟩, hd⟩ fC q => ?_
 obtain ⟨f0, f1, f3, f4, f5, f6⟩ := fC
 exact ⟨m, hn, fun h' hsb => ⟨.ref D, H', I'.turned (t' := s'.toks) (fun b ob hb e => (hsb.2 b hb).trans e) f0 f1 f4 f5 f6, rfl, q⟩⟩
end
end L2
namespace L2
open PySem PySem.Spec PyProof.Rows PySem.W
inductive EqG (H : Hp) : Nat → V → V → Bool → Prop
 | flat {n : Nat} {v u : V} (h1 : QcK v = true) (h2 : QcK u = true) : EqG H n v u (eqV v u)
 | same {n : Nat} {v : V} (hnb : (match v with | .byt _ => false | .flt _ => false | _ => true) = true) : EqG H n v v true
 | tf {n : Nat} {a : Addr} {xs : List V} {u : V} (h1 : H a = some (.tup xs)) (h2 : QcK u = true) : EqG H n (.ref a) u false
 | ft {n : Nat} {a : Addr} {xs : List V} {u : V} (h1 : H a = some (.tup xs)) (h2 : QcK u = true) : EqG H n u (.ref a) false
 | tup {n : Nat} {a b : Addr} {xs ys : List V} {e : Nat → Bool} (ne : a ≠ b) (ha : H a = some (.tup xs)) (hb : H b = some (.tup ys)) (he : ∀ (j : Nat) (x y : V), xs[j]? = some x → ys[j]? = some y → EqG H n x y (e j)) :
   EqG H (n + 1) (.ref a) (.ref b) ((List.range (min xs.length ys.length)).all e && xs.length == ys.length)
 | lst {n : Nat} {a b : Addr} {xs ys : List V} {e : Nat → Bool} (ne : a ≠ b) (ha : H a = some (.lst xs)) (hb : H b = some (.lst ys)) (he : ∀ (j : Nat) (x y : V), xs[j]? = some x → ys[j]? = some y → EqG H n x y (e j)) :
   EqG H (n + 1) (.ref a) (.ref b) (xs.length == ys.length && (List.range xs.length).all e)
section
variable {X : Cx} {pins : Pn} {σ : St} {H : Hp} {s : Shared}
theorem Qi1 {xs ys : List V} {its its2 : List Value} {e : Nat → Bool} {A : Around} (r1 : Vals xs its) (r2 : Vals ys its2)
  (he : ∀ (j : Nat) (x y : V) (u v : Value), xs[j]? = some x → ys[j]? = some y → RelV x u → RelV y v → SeqAt.EqAt A s u v (e j)) :
  ∀ j (h1 : j < its.toArray.size) (h2 : j < its2.toArray.size), SeqAt.EqAt A s its.toArray[j] its2.toArray[j] (e j) := fun j h1 h2 => by
 have l1 := r1.length
 have l2 := r2.length
 have h1 : j < its.length := by simpa using h1
 have h2 : j < its2.length := by simpa using h2
 have e1 : xs[j]? = some (xs[j]'(by omega)) := List.getElem?_eq_getElem (by omega)
 have e2 : ys[j]? = some (ys[j]'(by omega)) := List.getElem?_eq_getElem (by omega)
 obtain ⟨u1, q1, s1⟩ := r1.get e1
 obtain ⟨u2, q2, s2⟩ := r2.get e2
 have w1 : its.toArray[j] = u1 := by
  have := List.getElem?_eq_getElem h1
  rw [q1] at this
  simpa using (Option.some.inj this).symm
 have w2 : its2.toArray[j] = u2 := by
  have := List.getElem?_eq_getElem h2
  rw [q2] at this
  simpa using (Option.some.inj this).symm
 rw [w1, w2]
 exact he j _ _ _ _ e1 e2 s1 s2
theorem QiZ {A : Around} {a b : Addr} {xs ys : List V} {e : Nat → Bool} (I : Inv X pins σ H s) (ha : H a = some (.lst xs)) (hb : H b = some (.lst ys)) (hu : A.units < cLine)
  (he : ∀ (j : Nat) (x y : V) (u v : Value), xs[j]? = some x → ys[j]? = some y → RelV x u → RelV y v → SeqAt.EqAt A.in1 s u v (e j)) : SeqAt.RcAt A s (.ref a) (.ref b) (xs.length == ys.length && (List.range xs.length).all e) := by
 obtain ⟨_, its, c, r1, _, e1⟩ := I.lstM ha
 obtain ⟨_, its2, c2, r2, _, e2⟩ := I.lstM hb
 have l1 := r1.length
 have l2 := r2.length
 have p1 : s.heap.IsList a its.toArray := ⟨_, e1, rfl, _, rfl⟩
 have p2 : s.heap.IsList b its2.toArray := ⟨_, e2, rfl, _, rfl⟩
 by_cases hz : xs.length = ys.length
 ·have := SeqAt.RcAt.lists (e := e) p1 p2 (by simp; omega) hu (Qi1 r1 r2 he)
  rw [show (xs.length == ys.length && (List.range xs.length).all e) = (List.range its.toArray.size).all e by rw [List.size_toArray, ← l1]; simp [hz]]
  exact this
 ·have := SeqAt.RcAt.lists_lengths p1 p2 (by simp; omega) hu
  rw [show (xs.length == ys.length && (List.range xs.length).all e) = false by simp [hz]]
  exact this
theorem EqG.at {n : Nat} {v u : V} {b : Bool} (g : EqG H n v u b) (I : Inv X pins σ H s) : ∀ {A : Around} {v' u' : Value}, RelV v v' → RelV u u' → A.units + n < cLine → SeqAt.EqAt A s v' u' b := by
 induction g with
 | flat h1 h2 => exact fun r1 r2 _ => Qk0 r1 r2 h1 h2
 | @same n v hnb =>
  intro A v' u' r1 r2 _
  cases v with
  | non => cases r1; cases r2; exact SeqAt.EqAt.same _
  | bl c => cases r1; cases r2; exact SeqAt.EqAt.same _
  | int i =>
   obtain ⟨t, rfl⟩ := r1
   obtain ⟨t', rfl⟩ := r2
   have := SeqAt.EqAt.int_int (A := A) (s := s) i t i t'
   rwa [beq_self_eq_true] at this
  | str x =>
   obtain ⟨t, rfl⟩ := r1
   obtain ⟨t', rfl⟩ := r2
   have := SeqAt.EqAt.str_str (A := A) (s := s) x t x t'
   rwa [beq_self_eq_true] at this
  | ref a => cases r1; cases r2; exact SeqAt.EqAt.same _
  | ty T => cases r1; cases r2; exact SeqAt.EqAt.same _
  | byt x => cases hnb
  | flt x => cases hnb
 | @tf n a xs u h1 h2 =>
  intro A v' u' r1 r2 hu
  cases r1
  obtain ⟨its, _, p1, _⟩ := I.tuple (SqT.of h1)
  have p1 : s.heap.IsTuple _ its.toArray := p1
  cases u with
  | non => cases r2; exact SeqAt.EqAt.tuple_none p1 (by omega)
  | bl c => cases r2; exact SeqAt.EqAt.tuple_bool c p1 (by omega)
  | int i => obtain ⟨t, rfl⟩ := r2; exact SeqAt.EqAt.tuple_int i t p1 (by omega)
  | str x => obtain ⟨t, rfl⟩ := r2; exact SeqAt.EqAt.tuple_str x t p1 (by omega)
  | ref a => cases h2
  | ty T => cases h2
  | byt x => cases h2
  | flt x => cases h2
 | @ft n a xs u h1 h2 =>
  intro A v' u' r1 r2 hu
  cases r2
  obtain ⟨its, _, p1, _⟩ := I.tuple (SqT.of h1)
  have p1 : s.heap.IsTuple _ its.toArray := p1
  cases u with
  | non => cases r1; exact SeqAt.EqAt.none_tuple p1 (by omega)
  | bl c => cases r1; exact SeqAt.EqAt.bool_tuple c p1 (by omega)
  | int i => obtain ⟨t, rfl⟩ := r1; exact SeqAt.EqAt.int_tuple i t p1 (by omega)
  | str x => obtain ⟨t, rfl⟩ := r1; exact SeqAt.EqAt.str_tuple x t p1 (by omega)
  | ref a => cases h2
  | ty T => cases h2
  | byt x => cases h2
  | flt x => cases h2
 | @tup n a b xs ys e ne ha hb he ih =>
  intro A v' u' r1 r2 hu
  cases r1
  cases r2
  obtain ⟨its, r1, p1, _⟩ := I.tuple (SqT.of ha)
  obtain ⟨its2, r2, p2, _⟩ := I.tuple (SqT.of hb)
  have l1 := r1.length
  have l2 := r2.length
  have := SeqAt.RcAt.tuples (A := A) (e := e) (show s.heap.IsTuple a its.toArray from p1) (show s.heap.IsTuple b its2.toArray from p2) (by omega) (Qi1 r1 r2 fun j x y u v hx hy rx ry => ih j x y hx hy rx ry (by show A.units + 1 + n < cLine; omega))
  rw [List.size_toArray, List.size_toArray, ← l1, ← l2] at this
  exact SeqAt.EqAt.of_refs ne this
 | @lst n a b xs ys e ne ha hb he ih =>
  intro A v' u' r1 r2 hu
  cases r1
  cases r2
  exact SeqAt.EqAt.of_refs ne (QiZ I ha hb (by omega) fun j x y u v hx hy rx ry => ih j x y hx hy rx ry (by show A.units + 1 + n < cLine; omega))
def rEqG : R2 := fun x y H Q => ∃ (a b : Addr) (xs ys : List V) (e : Nat → Bool), x = .ref a ∧ y = .ref b ∧ H a = some (.lst xs) ∧ H b = some (.lst ys) ∧ (∀ (j : Nat) (x y : V), xs[j]? = some x → ys[j]? = some y → EqG H 8 x y (e j)) ∧ Q (.bl (xs.length == ys.length && (List.range xs.length).all e)) H
theorem Qmj (hu : X.A.units + 64 < cLine) : OpR X (compareOp .Eq) rEqG := by
 intro pins s σ H x y v u Q I rx ry h
 obtain ⟨a, b, xs, ys, e, rfl, rfl, ha, hb, he, q⟩ := h
 cases rx
 cases ry
 exact QiZ I ha hb (by omega) (fun j x y u v hx hy r1 r2 => (he j x y hx hy).at I r1 r2 (by show X.A.units + 1 + 8 < cLine; omega)) _ _ _ _ ⟨.bl _, H, I, rfl, q⟩
end
end L2
namespace L2
open PySem PySem.Spec PyProof.Rows PySem.W
section
variable {X : Cx}
end
end L2
namespace LW
open PySem L2
def ren (f : Int → Int) : T → T
 | .box n => .box (f n)
 | t => t
def idx (w : List Int) (n : Int) : Int := (w.idxOf n : Nat)
theorem idx_at {w : List Int} {j : Nat} {n : Int} (nd : w.Nodup) (h : w[j]? = some n) : idx w n = j := by
 have h1 := (List.getElem?_eq_some_iff.mp h).1
 have hm := List.mem_of_getElem? h
 have h2 : w.idxOf n < w.length := List.idxOf_lt_length_of_mem hm
 have h3 : w[w.idxOf n]? = some n := by rw [List.getElem?_eq_getElem h2]; exact congrArg some (List.getElem_idxOf h2)
 have := QbK nd h3 h
 unfold idx; omega
abbrev Row := Str × List T
def Qgl (bs : List Box) (w : List Int) (n : Int) : Row := match bs.find? (fun b => decide (b.name = n)) with
 | some b => (b.kind, b.row.map (ren (idx w)))
 | none => ("", [])
theorem Qkj {bs : List Box} {w : List Int} {i : Nat} {b : Box} (nd : (bs.map (·.name)).Nodup) (h : bs[i]? = some b) : Qgl bs w b.name = (b.kind, b.row.map (ren (idx w))) := by
 have : bs.find? (fun c => decide (c.name = b.name)) = some b := by
  have hm := List.mem_of_getElem? h
  clear h
  induction bs with
  | nil => cases hm
  | cons c r ih =>
   rw [List.find?_cons]
   have nd' := List.nodup_cons.mp (show (c.name :: r.map (·.name)).Nodup from nd)
   by_cases e : c.name = b.name
   ·rw [decide_eq_true e]
    rcases List.mem_cons.mp hm with z | z
    ·rw [z]
    ·exact absurd (List.mem_map.mpr ⟨b, z, e.symm⟩) nd'.1
   ·rw [decide_eq_false e]
    rcases List.mem_cons.mp hm with z | z
    ·exact absurd (by rw [z]) e
    ·exact ih nd'.2 z
 unfold Qgl
 rw [this]
def Qk2 (bs : List Box) (n : Int) : List Row := (Qa1 bs n).map (Qgl bs (Qa1 bs n))
theorem Qlg {ns : List Int} {n : Int} (xs : List Int) (h : n ∈ ns) : n ∈ Qgz ns xs := by
 obtain ⟨ys, e⟩ := Qd5 xs ns
 rw [e]; exact List.mem_append_left _ h
theorem Qi8 : ∀ (xs : List Int) {ns : List Int} {n : Int}, n ∈ xs → n ∈ Qgz ns xs
 | x :: xs, ns, n, h => by
  rw [Qd6]
  rcases List.mem_cons.mp h with rfl | h
  ·refine Qlg xs ?_
   split
   ·assumption
   ·exact List.mem_append_right _ (by simp)
  ·exact Qi8 xs h
theorem Qh3 (succ : Int → List Int) (n : Int) : ∀ (k j : Nat), ∃ ys, wk succ n (k + j) = wk succ n k ++ ys
 | k, 0 => ⟨[], by simp⟩
 | k, j + 1 => by
  obtain ⟨ys, e⟩ := Qh3 succ n k j
  cases h : (wk succ n (k + j))[k + j]? with
  | none => exact ⟨ys, by rw [← Nat.add_assoc, QgA h, e]⟩
  | some x =>
   obtain ⟨zs, e2⟩ := Qd5 (succ x) (wk succ n (k + j))
   exact ⟨ys ++ zs, by rw [← Nat.add_assoc, Qe2 h, e2, e, List.append_assoc]⟩
theorem QjO {succ : Int → List Int} {n x y : Int} {N : Nat} (hN : (wk succ n N).length ≤ N) (hx : x ∈ wk succ n N) (hy : y ∈ succ x) : y ∈ wk succ n N := by
 obtain ⟨j, hj⟩ := List.getElem?_of_mem hx
 have hjl := (List.getElem?_eq_some_iff.mp hj).1
 obtain ⟨d, rfl⟩ := Nat.le.dest (show j ≤ N by omega)
 have hlen : j < (wk succ n j).length := by
  by_cases z : (wk succ n j).length ≤ j
  ·rw [Qh2 z d] at hjl; omega
  ·omega
 obtain ⟨ys, e⟩ := Qh3 succ n j d
 have hxj : (wk succ n j)[j]? = some x := by
  rw [e, List.getElem?_append_left hlen] at hj; exact hj
 have h1 : y ∈ wk succ n (j + 1) := by rw [Qe2 hxj]; exact Qi8 _ hy
 rcases d with _ | d
 ·exfalso; rw [Nat.add_zero] at hN; omega
 ·obtain ⟨zs, e2⟩ := Qh3 succ n (j + 1) d
  rw [show j + (d + 1) = j + 1 + d by omega, e2]
  exact List.mem_append_left _ h1
section
variable {bs : List Box} {n : Int}
theorem Qmx : (Qa1 bs n).Nodup := QjN _ _ _
theorem Qmy (nd : (bs.map (·.name)).Nodup) (hc : ClosedB bs) (hn : n ∈ bs.map (·.name)) : ∀ m ∈ Qa1 bs n, m ∈ bs.map (·.name) := Qjd hn (hc.succ nd) _
theorem QiB (nd : (bs.map (·.name)).Nodup) (hc : ClosedB bs) (hn : n ∈ bs.map (·.name)) : (Qa1 bs n).length ≤ bs.length := by have := QlZ hn (hc.succ nd) bs.length; rwa [List.length_map] at this
theorem Qh4 (nd : (bs.map (·.name)).Nodup) (hc : ClosedB bs) (hn : n ∈ bs.map (·.name)) {i : Nat} {b : Box} (hb : bs[i]? = some b) (hm : b.name ∈ Qa1 bs n) {m : Int} (h : .box m ∈ b.row) : m ∈ Qa1 bs n :=
 QjO (QiB nd hc hn) hm (by rw [QgB nd hb]; exact Qap.mpr h)
end
def RowT (H : Hp) (r : Row) (a : Addr) : Prop := ∃ t vs, H a = some (.tup [.str r.1, .ref t]) ∧ H t = some (.tup vs) ∧ Ths H r.2 vs
theorem RowT.same {H H' : Hp} {r : Row} {a : Addr} (s : Same H H') (h : RowT H r a) : RowT H' r a := let ⟨t, vs, h1, h2, h3⟩ := h; ⟨t, vs, s _ _ h1, s _ _ h2, Ths.keep (Tups.of_same s) h3⟩
def ZX (w : List Int) : List (Key × V) := w.zipIdx.map fun q => ((Sum.inl q.1 : Key), V.int (q.2 : Nat))
theorem Qie (w : List Int) : (ZX w).length = w.length := by simp [ZX]
theorem Qgm {w : List Int} {j : Nat} {n : Int} (h : w[j]? = some n) : (ZX w)[j]? = some (Sum.inl n, V.int (j : Nat)) := by
 unfold ZX
 rw [List.getElem?_map, List.getElem?_zipIdx, h]
 simp
theorem Qex (w : List Int) : (ZX w).map (·.1) = w.map Sum.inl := by
 unfold ZX
 rw [List.map_map]
 refine List.ext_getElem? fun j => ?_
 rw [List.getElem?_map, List.getElem?_map, List.getElem?_zipIdx]
 cases w[j]? <;> rfl
theorem Qid {w : List Int} {n : Int} (nd : w.Nodup) (h : n ∈ w) : Qa2 (ZX w) (Sum.inl n) = some (.int (idx w n)) := by
 obtain ⟨j, hj⟩ := List.getElem?_of_mem h
 rw [idx_at nd hj]
 refine Qd9 ?_ (Qgm hj)
 rw [Qex]
 exact List.pairwise_map.mpr (nd.imp fun ne e => ne (Sum.inl.inj e))
theorem Qjz {a : Addr} {xs : List V} {tc : TT} {te : TE} {σ : St} {fr : List Nat} {H : Hp} {Q : VK} (Pv : Nat → List V → Hp → Prop) (h0 : Pv 0 [] H) (hz : ∀ i ys H, Pv i ys H → ys.length ≤ i) (hn : xs.length ≤ sizeLine)
  (hl : ∀ i ys H, i ≤ xs.length → Pv i ys H → H a = some (.lst xs))
  (hs : ∀ (i : Nat) (x : V) (ys : List V) (H : Hp) (p : Addr), xs[i]? = some x → Pv i ys H → H p = none → tc (some (.int (i : Int)) :: some x :: Qc1 σ fr) (upd H p (.tup [.int (i : Int), x])) fun b H2 => if b = true then te (some (.int (i : Int)) :: some x :: Qc1 σ fr) H2 fun y H3 => Pv (i + 1) (ys ++ [y]) H3 else Pv (i + 1) ys H2)
  (hd : ∀ ys H, Pv xs.length ys H → ∀ p, H p = none → Q (.ref p) (upd H p (.lst ys))) : QjV fr tc te σ Q (Ite a) H := by
 refine ⟨fun i m ys H => m = xs.length - i ∧ i ≤ xs.length ∧ Pv i ys H, ⟨xs.length, by simp, Nat.zero_le _, h0⟩, ?_⟩
 rintro i m ys H ⟨rfl, hi, p⟩
 have q0 := hl i ys H hi p
 have hl := hz i ys H p
 by_cases hlt : i < xs.length
 ·refine .inr ⟨⟨xs, xs[i], q0, by simp [hlt]⟩, by omega, Pv (i + 1), fun ys' H' q => ⟨xs.length - (i + 1), by omega, rfl, hlt, q⟩, fun v H' y => ?_⟩
  obtain ⟨pp, x, hp, e1, e2, hx⟩ := y
  subst e1 e2
  exact ⟨pp, _, _, rfl, Qd, hs i x ys H pp (hx xs q0) p hp⟩
 ·have e : i = xs.length := by omega
  subst e
  exact .inl ⟨⟨xs, q0, Nat.le_refl _⟩, by omega, hd ys H p⟩
def Qgh : Sp := fun vs H Q _ => ∃ (v : V) (d : Addr) (t : T) (f : Int → Int), vs = [v, .ref d] ∧ isT H t v ∧ (∀ n, t = .box n → DGet H d (.int n) (some (.int (f n)))) ∧ ∀ v' H', Same H H' → isT H' (ren f t) v' → Q v' H'
def Qj2 (C : Addr) : Sp := fun vs H Q _ => ∃ (p d : Addr) (A : HA) (S : HS) (i : Nat) (b : Box) (f : Int → Int), vs = [.ref p, .int b.name, .ref d] ∧ HouseAt C H p A S ∧ S.boxes[i]? = some b ∧ b.row.length ≤ 900 ∧
 (∀ n, .box n ∈ b.row → ∀ H', Same H H' → DGet H' d (.int n) (some (.int (f n)))) ∧ ∀ a H', Same H H' → H a = none → RowT H' (b.kind, b.row.map (ren f)) a → Q (.ref a) H'
def Qkc (C : Addr) : Sp := fun vs H Q _ => ∃ (p : Addr) (A : HA) (S : HS) (n : Int), vs = [.ref p, .int n] ∧ HouseAt C H p A S ∧ n ∈ names S ∧ ClosedB S.boxes ∧ S.boxes.length ≤ 900 ∧
 ∀ l as H', Same H H' → H l = none → H' l = some (.lst (as.map V.ref)) → Paired (RowT H') (Qk2 S.boxes n) as → Q (.ref l) H'
section
variable {C : Addr}
theorem Qf3 (F : Fun K "renamed" "renamed" QbS f fd) (T : TX K mg C) (D1_ : DefOk P w K mg base n "box_name" ["thing"] (Zv) [[]])
  (D2_ : DefOk P w K mg base n "box_thing" ["name"] (QcP) [[]]) :
  FnOk P w K mg base CX0 (n + 1) f fd ["thing", "new_names"] (Qgh) := by
 refine F.ok Qbl (by rintro _ _ _ _ ⟨_, _, _, _, rfl, _⟩; rfl) fun _ _ _ s H vs Q E hr h => ?_
 obtain ⟨v, d, t, f', rfl, tv, hg, k⟩ := h
 have hu := Qu hr
 refine ⟨_, (Qb (Qw (i := 2) Qbl.nd rfl (Or.inl rfl) (qc D1_ hr (Qa (pv 0) Qc)))
  (Qb (QA (Qag (Qhz (pv 2))) (Qe (Qq (pv 0))) Qn)
  (Qe (Qq (qc D2_ hr (Qa (Qao hu (pv 1) (pv 2) (fun _ _ => rfl)) Qc)))))), ?_⟩
 refine ⟨_, rfl, v, t, rfl, tv, ?_⟩
 cases t with
 | non => exact ⟨_, rfl, _, rfl, QaK ⟨_, rfl, k _ _ (Same.refl _) tv⟩⟩
 | num i => exact ⟨_, rfl, _, rfl, QaK ⟨_, rfl, k _ _ (Same.refl _) tv⟩⟩
 | box n => exact ⟨_, rfl, _, rfl, Qbg ⟨_, rfl, _, rfl, d, _, rfl, hg n rfl, f' n, rfl, fun a ha => k _ _ (Same.new ha) ⟨a, rfl, Qd⟩⟩⟩
theorem Qg9 : Qz (Qg QbG) ["house", "name", "new_names", "things"] (QD ((QaJ (QeB (Qr QbG) 0)))) "thing" ["new_names"] [2] :=
 bsk
theorem Qij (F : Fun K "row_of" "row_of" QbG f fd) (T : TX K mg C) (D1_ : DefOk P w K mg base n "things_in" ["house", "name"] (QgD C) [[]])
  (D2_ : DefOk P w K mg base n "renamed" ["thing", "new_names"] (Qgh) [[]])
  (M3_ : MethOk P w K mg base C n "kind" ["self", "name"] (Qe6 C) [[]]) :
  FnOk P w K mg base CX0 (n + 1) f fd ["house", "name", "new_names"] (Qj2 C) := by
 refine F.ok Qfj (by rintro _ _ _ _ ⟨_, _, _, _, _, _, _, rfl, _⟩; rfl) fun _ _ _ s H vs Q E hr h => ?_
 obtain ⟨p, d, A', S, i, b, f', rfl, hh, hb, hrow, hg, k⟩ := h
 have hu := Qu hr
 refine ⟨_, (Qb (Zo (i := 3) Qg9 rfl Qfj.nd rfl (Or.inl rfl) (QQ (qc D1_ hr (Qa (pv 0) (Qa (pv 1) Qc)))) (fun _ _ _ _ => Zd) (fun _ _ _ _ => (qc D2_ hr (Qa (pv 0) (Qa (pv 1) Qc)))))
  (Qe (Qq (QaE (Qa (qm M3_ (pv 0) T.cl hr (Qa (pv 1) Qc)) (Qa (QdJ Qg8 (by rfl) T.g_tuple PyProof.Rows.boot_tuple (Qa (pv 3) Qc)) Qc)))))), ?_⟩
 refine ⟨_, rfl, _, rfl, p, A', S, i, b, rfl, hh, hb, hrow, fun l H1 s1 hl ht => ?_⟩
 obtain ⟨vs, hv, pr⟩ := ht
 have len := QG pr
 refine ⟨l, rfl, ⟨_, SqL.of hv⟩, ?_⟩
 refine ZE (xs := vs) (fun j ys H' => Same H1 H' ∧ Ths H' ((b.row.take j).map (ren f')) ys) ⟨Same.refl _, .nil⟩ ?_ (Nat.le_trans (by omega) (show 900 ≤ sizeLine by decide)) ?_ ?_ ?_
 ·rintro j ys H' ⟨_, h⟩
  rw [← QG h, List.length_map, List.length_take]; omega
 ·rintro j ys H' _ ⟨s, _⟩
  exact SqL.of (s _ _ hv)
 ·rintro j x ys H' hx ⟨s, h⟩
  obtain ⟨t, ht, tv⟩ := QM pr hx
  dsimp only [Qc0]
  refine QaK ⟨_, rfl, _, rfl, x, d, t, f', rfl, tv.keep (Tups.of_same s), fun n' e => hg n' (by rw [← e]; exact List.mem_of_getElem? ht) H' (s1.trans s), fun v' H2 s2 tv' => ⟨s.trans s2, ?_⟩⟩
  rw [Qde ht, List.map_append]
  exact Qbc (Ths.keep (Tups.of_same s2) h) (.cons tv' .nil)
 rintro ys H2 ⟨s2, h⟩ l2 hl2
 rw [← len, List.take_length] at h
 have s3 := (s1.trans s2).trans (Same.new (o := .lst ys) hl2)
 have hh3 := hh.same s3
 refine ⟨_, rfl, p, A'.dx, _, rfl, hh3.ob, Qj, _, rfl, p, A', S, i, b, rfl, hh3, hb, _, rfl, l2, ys, rfl, .inl ⟨SqL.of Qd, fun t ht => ?_⟩⟩
 refine ⟨zl, fun a ha => k a _ (s3.trans ((Same.new ht).trans (Same.new ha))) ((s3.trans (Same.new ht)).free ha) ⟨t, ys, Qd, Zk Qd ha, ?_⟩⟩
 exact Ths.keep (((Tups.new hl2).trans (Tups.new ht)).trans (Tups.new ha)) h
end
section
variable {C : Addr}
theorem Qeo : Qbf (Qg QU) ["house", "name", "names", "places"] (QD ((Qiy 0 (QaJ (QeB (Qr QU) 1))))) "place" "found" [] [] :=
 ⟨by rfl, by decide +kernel, by decide +kernel, by decide +kernel, by rfl, by rfl, by decide +kernel, by rfl, by decide +kernel⟩
theorem Qen : Qz (Qg QU) ["house", "name", "names", "places"] (QD ((Qhw (QeB (Qr QU) 2)))) "found" ["house", "places"] [0, 3] :=
 bsk
theorem Qfy (F : Fun K "walk_draft" "walk_draft" QU f fd) (T : TX K mg C) (gdict : mg "dict" = none) (D1_ : DefOk P w K mg base n "walk" ["house", "name"] (Ql3 C) [[]])
  (D2_ : DefOk P w K mg base n "row_of" ["house", "name", "new_names"] (Qj2 C) [[]]) :
  FnOk P w K mg base CX0 (n + 1) f fd ["house", "name"] (Qkc C) := by
 refine F.ok Zx (by rintro _ _ _ _ ⟨_, _, _, _, rfl, _⟩; rfl) fun _ _ _ s H vs Q E hr h => ?_
 obtain ⟨p, A', S, n0, rfl, hh, hn, hcl, few, k⟩ := h
 have hu := Qu hr
 refine ⟨_, (Qb (Qw (i := 2) Zx.nd rfl (Or.inl rfl) (qc D1_ hr (Qa (pv 0) (Qa (pv 1) Qc))))
  (Qb (Qw (i := 3) Zx.nd rfl (Or.inr rfl) (QdJ (QjA hr.hd) (by rfl) gdict PyProof.Rows.boot_dict (Qa (QlA Qeo rfl (Qdk (by rfl) T.g_enumerate (Qa (pv 2) Qc)) (fun _ _ _ _ => Zd) (fun _ _ _ _ => (QaE (Qa (pv 1) (Qa (pv 0) Qc))))) Qc)))
  (Qe (Qq (Qbd Qen rfl (QQ (pv 2)) (fun _ _ _ _ => Zd) (fun _ _ _ _ => (qc D2_ hr (Qa (pv 1) (Qa (pv 0) (Qa (pv 2) Qc)))))))))), ?_⟩
 have wlen := QiB hh.nm hcl hn
 have hin := Qmy hh.nm hcl hn
 refine ⟨_, rfl, _, rfl, p, A', S, n0, rfl, hh, hn, hcl, few, fun l H1 s1 hl hL => ?_⟩
 have wcl : ∀ {i : Nat} {b : Box}, S.boxes[i]? = some b → b.name ∈ Qa1 S.boxes n0 → ∀ m, .box m ∈ b.row → m ∈ Qa1 S.boxes n0 := fun hb hm m h => Qh4 hh.nm hcl hn hb hm h
 have wnd : (Qa1 S.boxes n0).Nodup := Qmx
 have ed : Qk2 S.boxes n0 = (Qa1 S.boxes n0).map (Qgl S.boxes (Qa1 S.boxes n0)) := rfl
 rw [ed] at k
 generalize Qa1 S.boxes n0 = ww at wlen hin hL wcl wnd k ⊢
 refine ⟨_, rfl, l, _, rfl, hL, ?_⟩
 refine Qjz (xs := ww.map V.int) (fun i ys H' => Same H1 H' ∧ ∃ as : List Addr, ys = as.map V.ref ∧ Paired (fun (kv : Key × V) (a : Addr) => H' a = some (.tup [kV kv.1, kv.2])) ((ZX ww).take i) as) ⟨Same.refl _, [], rfl, .nil⟩ ?_ (by rw [List.length_map]; exact Nat.le_trans (by omega) (show 900 ≤ sizeLine by decide)) ?_ ?_ ?_
 ·rintro i ys H' ⟨_, as, rfl, h⟩
  rw [List.length_map, ← QG h, List.length_take]; omega
 ·rintro i ys H' _ ⟨s, _⟩
  exact s _ _ hL
 ·rintro i x ys H' q hx ⟨s, as, rfl, h⟩ hq
  obtain ⟨m, hm, rfl⟩ : ∃ m, ww[i]? = some m ∧ x = .int m := by
   rw [List.getElem?_map] at hx
   cases e : ww[i]? with
   | none => rw [e] at hx; cases hx
   | some m => rw [e] at hx; exact ⟨m, rfl, (Option.some.inj hx).symm⟩
  dsimp only [Qc0]
  refine QaK ⟨_, rfl, _, rfl, zl, fun tp htp => ?_⟩
  refine ⟨(s.trans (Same.new hq)).trans (Same.new htp), as ++ [tp], by simp, ?_⟩
  rw [Qde (Qgm hm)]
  exact Qbc (QH (fun kv a _ _ z => Zk (Zk z hq) htp) h) (.cons Qd .nil)
 rintro ys H2 ⟨s2, as, rfl, h⟩ l2 hl2
 rw [List.length_map, show ww.length = (ZX ww).length from (Qie ww).symm, List.take_length] at h
 refine ⟨l2, as, ZX ww, rfl, Qd, QH (fun kv a _ _ z => Zk z hl2) h, by rw [Qex]; exact Qeg wnd, fun d hd => ?_⟩
 have s3 := ((s1.trans s2).trans (Same.new (o := .lst (as.map V.ref)) hl2)).trans (Same.new (o := .dK (ZX ww)) hd)
 have hd3 : (upd (upd H2 l2 (.lst (as.map V.ref))) d (.dK (ZX ww))) d = some (.dK (ZX ww)) := Qd
 have hL3 : (upd (upd H2 l2 (.lst (as.map V.ref))) d (.dK (ZX ww))) l = some (.lst (ww.map V.int)) := Zk (Zk (s2 _ _ hL) hl2) hd
 generalize upd (upd H2 l2 (.lst (as.map V.ref))) d (.dK (ZX ww)) = H3 at s3 hd3 hL3 ⊢
 refine ⟨_, rfl, l, rfl, ⟨_, SqL.of hL3⟩, ?_⟩
 refine ZE (xs := ww.map V.int) (fun j ys H' => Same H3 H' ∧ ∃ bs : List Addr, ys = bs.map V.ref ∧ Paired (RowT H') ((ww.take j).map (Qgl S.boxes ww)) bs) ⟨Same.refl _, [], rfl, .nil⟩ ?_ (by rw [List.length_map]; exact Nat.le_trans (by omega) (show 900 ≤ sizeLine by decide)) ?_ ?_ ?_
 ·rintro j ys H' ⟨_, bs, rfl, h⟩
  rw [List.length_map, ← QG h, List.length_map, List.length_take]; omega
 ·rintro j ys H' _ ⟨s, _⟩
  exact SqL.of (s _ _ hL3)
 ·rintro j x ys H' hx ⟨s, bs, rfl, h⟩
  obtain ⟨m, hm, rfl⟩ : ∃ m, ww[j]? = some m ∧ x = .int m := by
   rw [List.getElem?_map] at hx
   cases e : ww[j]? with
   | none => rw [e] at hx; cases hx
   | some m => rw [e] at hx; exact ⟨m, rfl, (Option.some.inj hx).symm⟩
  obtain ⟨i, b, hb, rfl⟩ := QhK (S := S) (hin m (List.mem_of_getElem? hm))
  dsimp only [Qc0]
  refine QaK ⟨_, rfl, _, rfl, _, rfl, p, d, A', S, i, b, idx ww, rfl, hh.same (s3.trans s), hb, (hcl b (List.mem_of_getElem? hb)).1, fun n' hn' H4 s4 => ?_, fun a H4 s4 ha hR => ⟨s.trans s4, bs ++ [a], by simp, ?_⟩⟩
  ·rw [← Qid wnd (wcl hb (List.mem_of_getElem? hm) n' hn')]
   exact DGet.k (k := Sum.inl n') (s4 _ _ (s _ _ hd3))
  ·rw [Qde hm, List.map_append]
   refine Qbc (QH (fun r c _ _ z => z.same s4) h) (.cons ?_ .nil)
   show RowT H4 (Qgl S.boxes ww b.name) a
   rw [Qkj hh.nm hb]
   exact hR
 ·rintro ys H4 ⟨s4, bs, rfl, h⟩ l4 hl4
  rw [List.length_map, List.take_length] at h
  exact k l4 bs _ ((s3.trans s4).trans (Same.new hl4)) ((s3.trans s4).free hl4) Qd (QH (fun r c _ _ z => z.same (Same.new hl4)) h)
end
end LW
namespace L2
open PySem PySem.Spec PyProof.Rows
theorem Qlw {X : Cx} {e : Expr} : PE X e (fun _ _ _ => False) := fun _ _ _ _ _ _ h => h.elim
theorem QlE {X : Cx} {id : String} : MtR X id (fun _ _ _ _ => False) := fun _ _ _ _ _ _ _ _ _ _ _ _ h => h.elim
end L2
namespace LW
open PySem L2
section
variable {C : Addr}
def QiL (C X : Addr) : Sp := fun vs H Q E => Qkc C vs H Q E ∨ QaL C X vs H Q E
theorem QdS (F : Fun K "walk_draft" "walk_draft" QU f fd) (T : TX K mg C) {C_2 : Addr} (DX1_ : DefX P w K mg base n "walk" ["house", "name"] (Qdt C C_2) [[]]) :
  FnOk P w K mg base (CXF P w) (n + 1) f fd ["house", "name"] (QaL C C_2) := by
 refine F.okX Zx (by rintro _ _ _ _ ⟨_, _, _, _, rfl, _⟩; rfl) fun _ _ _ s H vs Q E hr h => ?_
 obtain ⟨p, A', S, n', rfl, hh, hn, hlog, k⟩ := h
 have hu := Qu hr
 refine ⟨_, (Qb (Qw (i := 2) Zx.nd rfl (Or.inl rfl) (qcx DX1_ Ql hr (Qa (pv 0) (Qa (pv 1) Qc))))
  QP), ?_⟩
 exact ⟨_, rfl, _, rfl, p, A', S, n', rfl, hh, hn, hlog, k⟩
def Qhq (C X : Addr) : Sp := fun vs H _ E => ∃ (p : Addr) (A : HA) (S : HS) (n m : Int), vs = [.ref p, .int n, .int m] ∧ HouseAt C H p A S ∧ ((n ∉ names S ∧ QbD n ∧ E (.ref X) none H) ∨ (n ∈ names S ∧ ClosedB S.boxes ∧ S.boxes.length ≤ 900 ∧ m ∉ names S ∧ QbD m ∧ ∀ H', Same H H' → E (.ref X) none H'))
theorem QgX (F : Fun K "alike" "alike" Qfm f fd) (T : TX K mg C) {C_2 : Addr} (DX1_ : DefX P w K mg base n "walk_draft" ["house", "name"] (QiL C C_2) [[]]) :
  FnOk P w K mg base (CXF P w) (n + 1) f fd ["house", "name", "other"] (Qhq C C_2) := by
 refine F.okX Qjj (by rintro _ _ _ _ ⟨_, _, _, _, _, rfl, _⟩; rfl) fun _ _ _ s H vs Q E hr h => ?_
 obtain ⟨p, A', S, n', m, rfl, hh, cs⟩ := h
 have hu := Qu hr
 refine ⟨_, (Qe (Qq (Qee (Qmj hr.units) (qcx DX1_ Ql hr (Qa (pv 0) (Qa (pv 1) Qc))) (qcx DX1_ Ql hr (Qa (pv 0) (Qa (pv 2) Qc))) (Qv _)))), ?_⟩
 rcases cs with ⟨hn, hlog, k⟩ | ⟨hn, hcl, few, hm, hlog, k⟩
 ·exact ⟨_, rfl, _, rfl, .inr ⟨p, A', S, n', rfl, hh, hn, hlog, k⟩⟩
 ·exact ⟨_, rfl, _, rfl, .inl ⟨p, A', S, n', rfl, hh, hn, hcl, few, fun l as H1 s1 _ _ _ => ⟨_, rfl, _, rfl, .inr ⟨p, A', S, m, rfl, hh.same s1, hm, hlog, k H1 s1⟩⟩⟩⟩
theorem QgW (F : Fun K "apart" "apart" Qfl f fd) (T : TX K mg C) {C_2 : Addr} (MX1_ : MethX P w K mg base C n "check_box" ["self", "name"] (QV C C_2) [[]]) :
  FnOk P w K mg base (CXF P w) (n + 1) f fd ["house", "name", "other"] (Qdv C C_2) := by
 refine F.okX Qji (by rintro _ _ _ _ ⟨_, _, _, _, _, rfl, _⟩; rfl) fun _ _ _ s H vs Q E hr h => ?_
 obtain ⟨p, A', S, n', m, rfl, hh, cs⟩ := h
 have hu := Qu hr
 refine ⟨_, (Qb (Qk (qmx MX1_ (pv 0) T.cl Ql hr (Qa (pv 1) Qc)))
  (Qb (Qk (qmx MX1_ (pv 0) T.cl Ql hr (Qa (pv 2) Qc)))
  QP)), ?_⟩
 rcases cs with ⟨hn, hlog, k⟩ | ⟨hn, hm, hlog, k⟩
 ·exact ⟨_, rfl, p, A'.dx, _, rfl, hh.ob, Qj, _, rfl, .inr ⟨p, A', S, n', rfl, hh, hn, hlog, k⟩⟩
 ·exact ⟨_, rfl, p, A'.dx, _, rfl, hh.ob, Qj, _, rfl, .inl ⟨p, A', S, n', rfl, hh, hn, _, rfl, p, A'.dx, _, rfl, hh.ob, Qj, _, rfl, .inr ⟨p, A', S, m, rfl, hh, hm, hlog, k⟩⟩⟩
theorem QhW : Qz (Qg Qcr) ["house", "name"] (QD ((Qiy 0 (Qhw (QeB (Qr Qcr) 0))))) "row" [] [] :=
 bsk
theorem QgP (F : Fun K "shown" "shown" Qcr f fd) (T : TX K mg C) {C_2 : Addr} (DX1_ : DefX P w K mg base n "walk_draft" ["house", "name"] (QiL C C_2) [[]]) :
  FnOk P w K mg base (CXF P w) (n + 1) f fd ["house", "name"] (QaL C C_2) := by
 refine F.okX Qjh (by rintro _ _ _ _ ⟨_, _, _, _, rfl, _⟩; rfl) fun _ _ _ s H vs Q E hr h => ?_
 obtain ⟨p, A', S, n', rfl, hh, hn, hlog, k⟩ := h
 have hu := Qu hr
 refine ⟨_, (Qe (Qq (Qfp PySem.F.plainAttrs_str PySem.F.slot_str_join PySem.F.type_str_join QlE Qab (Qa (Qbd QhW rfl (QQ (qcx DX1_ Ql hr (Qa (pv 0) (Qa (pv 1) Qc)))) (fun _ _ _ _ => Zd) (fun _ _ _ _ => Qlw)) Qc)))), ?_⟩
 exact ⟨rfl, _, rfl, _, rfl, .inr ⟨p, A', S, n', rfl, hh, hn, hlog, k⟩⟩
def QbP (C XS XB : Addr) : Sp := fun vs H _ E => ∃ (p : Addr) (A : HA) (S : HS) (n i : Int), vs = [.ref p, .int n, .int i] ∧ HouseAt C H p A S ∧ (((i < 0 ∨ S.slots.length ≤ i) ∧ QbD i ∧ E (.ref XS) none H) ∨ (0 ≤ i ∧ i < S.slots.length ∧ n ∉ names S ∧ QbD n ∧ E (.ref XB) none H))
theorem QfB {ds : List Value} (F : FunD K "doubled" "doubled" Qdj f fd ds) (T : TX K mg C) {C_0 C_2 : Addr} (MX1_ : MethX P w K mg base C n "check_slot" ["self", "slot"] (Qck C C_0) [[]])
  (M2_ : MethOk P w K mg base C n "make_room" ["self", "count", "besides"] (QbO C) [[], [.none]])
  (DX3_ : DefX P w K mg base n "walk" ["house", "name"] (Qdt C C_2) [[]]) :
  FnOk P w K mg base (CXF P w) (n + 1) f fd ["house", "name", "slot"] (QbP C C_0 C_2) := by
 refine F.okX Qhu (by rintro _ _ _ _ ⟨_, _, _, _, _, rfl, _⟩; rfl) fun _ _ _ s H vs Q E hr h => ?_
 obtain ⟨p, A', S, n', i, rfl, hh, cs⟩ := h
 have hu := Qu hr
 refine ⟨_, (Qb (Qk (qmx MX1_ (pv 0) T.cl Ql hr (Qa (pv 2) Qc)))
  (Qb (Qk (qm M2_ (pv 0) T.cl hr (Qa (Qo Qs (by rfl) T.g_len PySem.boot_len (Qa (qcx DX3_ Ql hr (Qa (pv 0) (Qa (pv 1) Qc))) Qc)) (Qa (pv 1) Qc))))
  QP)), ?_⟩
 rcases cs with ⟨ho, hlog, k⟩ | ⟨h0, h1, hn, hlog, k⟩
 ·exact ⟨_, rfl, p, A'.dx, _, rfl, hh.ob, Qj, _, rfl, .inr ⟨p, A', S, i, rfl, hh, ho, hlog, k⟩⟩
 ·exact ⟨_, rfl, p, A'.dx, _, rfl, hh.ob, Qj, _, rfl, .inl ⟨p, A', S, i, rfl, hh, h0, h1, _, rfl, p, A'.dx, _, rfl, hh.ob, Qj, _, rfl, _, rfl, p, A', S, n', rfl, hh, hn, hlog, k⟩⟩
theorem QdT (F : Fun K "fold_draft" "fold_draft" Qby f fd) (T : TX K mg C) {C_2 : Addr} (DX1_ : DefX P w K mg base n "walk" ["house", "name"] (Qdt C C_2) [[]]) :
  FnOk P w K mg base (CXF P w) (n + 1) f fd ["house", "name"] (QaL C C_2) := by
 refine F.okX Qcq (by rintro _ _ _ _ ⟨_, _, _, _, rfl, _⟩; rfl) fun _ _ _ s H vs Q E hr h => ?_
 obtain ⟨p, A', S, n', rfl, hh, hn, hlog, k⟩ := h
 have hu := Qu hr
 refine ⟨_, (Qb (Qw (i := 2) Qcq.nd rfl (Or.inl rfl) (qcx DX1_ Ql hr (Qa (pv 0) (Qa (pv 1) Qc))))
  QP), ?_⟩
 exact ⟨_, rfl, _, rfl, p, A', S, n', rfl, hh, hn, hlog, k⟩
theorem Qgd {ds : List Value} (F : FunD K "folded" "folded" Qec f fd ds) (T : TX K mg C) {C_0 C_2 : Addr} (MX1_ : MethX P w K mg base C n "check_slot" ["self", "slot"] (Qck C C_0) [[]])
  (M2_ : MethOk P w K mg base C n "make_room" ["self", "count", "besides"] (QbO C) [[], [.none]])
  (DX3_ : DefX P w K mg base n "fold_draft" ["house", "name"] (QaL C C_2) [[]]) :
  FnOk P w K mg base (CXF P w) (n + 1) f fd ["house", "name", "slot"] (QbP C C_0 C_2) := by
 refine F.okX Qia (by rintro _ _ _ _ ⟨_, _, _, _, _, rfl, _⟩; rfl) fun _ _ _ s H vs Q E hr h => ?_
 obtain ⟨p, A', S, n', i, rfl, hh, cs⟩ := h
 have hu := Qu hr
 refine ⟨_, (Qb (Qk (qmx MX1_ (pv 0) T.cl Ql hr (Qa (pv 2) Qc)))
  (Qb (Qk (qm M2_ (pv 0) T.cl hr (Qa (Qo Qs (by rfl) T.g_len PySem.boot_len (Qa (qcx DX3_ Ql hr (Qa (pv 0) (Qa (pv 1) Qc))) Qc)) (Qa (pv 1) Qc))))
  QP)), ?_⟩
 rcases cs with ⟨ho, hlog, k⟩ | ⟨h0, h1, hn, hlog, k⟩
 ·exact ⟨_, rfl, p, A'.dx, _, rfl, hh.ob, Qj, _, rfl, .inr ⟨p, A', S, i, rfl, hh, ho, hlog, k⟩⟩
 ·exact ⟨_, rfl, p, A'.dx, _, rfl, hh.ob, Qj, _, rfl, .inl ⟨p, A', S, i, rfl, hh, h0, h1, _, rfl, p, A'.dx, _, rfl, hh.ob, Qj, _, rfl, _, rfl, p, A', S, n', rfl, hh, hn, hlog, k⟩⟩
theorem QgO {ds : List Value} (F : FunD K "sweep" "sweep" QdF f fd ds) (T : TX K mg C) {C_2 : Addr} (MX1_ : MethX P w K mg base C n "check_box" ["self", "name"] (QV C C_2) [[]]) :
  FnOk P w K mg base (CXF P w) (n + 1) f fd ["house", "besides"] (QaL C C_2) := by
 refine F.okX ZZ (by rintro _ _ _ _ ⟨_, _, _, _, rfl, _⟩; rfl) fun _ _ _ s H vs Q E hr h => ?_
 obtain ⟨p, A', S, n', rfl, hh, hn, hlog, k⟩ := h
 have hu := Qu hr
 refine ⟨_, (Qb (QA (Qag (Qbz (pv 1))) (Qe (Qk (qmx MX1_ (pv 0) T.cl Ql hr (Qa (pv 1) Qc)))) Qn)
  QP), ?_⟩
 exact ⟨_, rfl, _, rfl, QaK ⟨_, rfl, p, A'.dx, _, rfl, hh.ob, Qj, _, rfl, .inr ⟨p, A', S, n', rfl, hh, hn, hlog, k⟩⟩⟩
end
end LW
namespace LW
open PySem L2 PySem.W
section
variable {C : Addr}
theorem Qir {H : Hp} {a l : Addr} {x u : HO} (ha : H a = some x) (hl : H l = none) : upd H l u a = some x := (Qh (Qf ha hl)).trans ha
def Qkd (Xs : List Addr) : Sp := fun vs H Q _ => ∃ (a D : Addr), vs = [.ref a] ∧ H a = some (Qmu a D) ∧ D ∈ Xs ∧ ∀ H', Same H H' → Q (.bl true) H'
theorem Qgc (F : Fun K "_law_alone" "_law_alone" Qb0 f fd) (T : TX K mg C) {C_8 C_0 C_1 C_2 C_3 C_4 C_5 C_6 C_7 : Addr} (gx_9 : mg "ValueError" = none) (gx_8 : mg "HouseError" = some (.ref C_8)) (gx_0 : mg "NoSlot" = some (.ref C_0)) (gx_1 : mg "NoGuard" = some (.ref C_1)) (gx_2 : mg "NoBox" = some (.ref C_2)) (gx_3 : mg "NoField" = some (.ref C_3)) (gx_4 : mg "NotThere" = some (.ref C_4)) (gx_5 : mg "AlreadyThere" = some (.ref C_5)) (gx_6 : mg "Crowded" = some (.ref C_6)) (gx_7 : mg "NoNote" = some (.ref C_7)) (Z : XC K C_8 [C_0, C_1, C_2, C_3, C_4, C_5, C_6, C_7])  :
  FnOk P w K mg base CX0 (n + 1) f fd ["e"] (Qkd [C_0, C_1, C_2, C_3, C_4, C_5, C_6, C_7]) := by
 refine F.ok Qas (by rintro _ _ _ _ ⟨_, _, rfl, _⟩; rfl) fun _ _ _ s H vs Q E hr h => ?_
 obtain ⟨a, D, rfl, ha, hD, k⟩ := h
 have hu := Qu hr
 refine ⟨_, (Qb (Qw (i := 1) Qas.nd rfl (Or.inl rfl) (Zu (Qa (Qo ZF (by rfl) T.g_isi PyProof.Rows.boot_isinstance (Qa (pv 0) (Qa (Qac (v := .ref C_0) (by rfl) gx_0 rfl) Qc))) (Qa (Qo ZF (by rfl) T.g_isi PyProof.Rows.boot_isinstance (Qa (pv 0) (Qa (Qac (v := .ref C_1) (by rfl) gx_1 rfl) Qc))) (Qa (Qo ZF (by rfl) T.g_isi PyProof.Rows.boot_isinstance (Qa (pv 0) (Qa (Qac (v := .ref C_2) (by rfl) gx_2 rfl) Qc))) (Qa (Qo ZF (by rfl) T.g_isi PyProof.Rows.boot_isinstance (Qa (pv 0) (Qa (Qac (v := .ref C_3) (by rfl) gx_3 rfl) Qc))) Qc))))))
  (Qb (Qw (i := 1) Qas.nd rfl (Or.inl rfl) (QE Qky (pv 1) (Zu (Qa (Qo ZF (by rfl) T.g_isi PyProof.Rows.boot_isinstance (Qa (pv 0) (Qa (Qac (v := .ref C_4) (by rfl) gx_4 rfl) Qc))) (Qa (Qo ZF (by rfl) T.g_isi PyProof.Rows.boot_isinstance (Qa (pv 0) (Qa (Qac (v := .ref C_5) (by rfl) gx_5 rfl) Qc))) Qc)))))
  (Qb (Qw (i := 1) Qas.nd rfl (Or.inl rfl) (QE Qky (pv 1) (Zu (Qa (Qo ZF (by rfl) T.g_isi PyProof.Rows.boot_isinstance (Qa (pv 0) (Qa (Qac (v := .ref C_6) (by rfl) gx_6 rfl) Qc))) (Qa (Qo ZF (by rfl) T.g_isi PyProof.Rows.boot_isinstance (Qa (pv 0) (Qa (Qac (v := .ref C_7) (by rfl) gx_7 rfl) Qc))) Qc)))))
  (Qe (Qq (QdK (Qo ZF (by rfl) T.g_isi PyProof.Rows.boot_isinstance (Qa (pv 0) (Qa (Qac (v := .ref C_8) (by rfl) gx_8 rfl) Qc))) (QdK (Qo ZF (by rfl) T.g_isi PyProof.Rows.boot_isinstance (Qa (pv 0) (Qa (QcB (v := .ty "ValueError") (by rfl) gx_9 PyProof.Rows.Boot.«ValueError» rfl) Qc))) (Qfo (Qee ZC (Qfp PySem.F.plainAttrs_list PySem.F.slot_list_count PySem.F.type_list_count QlF (pv 1) (Qa Qce Qc)) Qi (Qv _)))))))))), ?_⟩
 have hi := Z.isi D hD
 have o := Z.one D hD
 refine ⟨_, rfl, a, D, _, _, _, rfl, ha, hi, rfl, o C_0 (by simp), _, rfl, a, D, _, _, _, rfl, ha, hi, rfl, o C_1 (by simp), _, rfl, a, D, _, _, _, rfl, ha, hi, rfl, o C_2 (by simp), _, rfl, a, D, _, _, _, rfl, ha, hi, rfl, o C_3 (by simp), zl, fun l hl => ?_⟩
 refine ⟨_, rfl, _, rfl, a, D, _, _, _, rfl, Qir ha hl, hi, rfl, o C_4 (by simp), _, rfl, a, D, _, _, _, rfl, Qir ha hl, hi, rfl, o C_5 (by simp), zl, fun l2 hl2 => ?_⟩
 have l21 : l2 ≠ l := (Qf Qd hl2).symm
 refine ⟨l, l2, _, _, rfl, rfl, (Qh l21.symm).trans Qd, Qd, show 4 + 2 ≤ sizeLine by decide, fun l3 hl3 => ?_⟩
 have ha3 := Qir (u := .lst ([V.bl (D == C_0), V.bl (D == C_1), V.bl (D == C_2), V.bl (D == C_3)] ++ [V.bl (D == C_4), V.bl (D == C_5)])) (Qir (Qir ha hl) hl2) hl3
 refine ⟨_, rfl, _, rfl, a, D, _, _, _, rfl, ha3, hi, rfl, o C_6 (by simp), _, rfl, a, D, _, _, _, rfl, ha3, hi, rfl, o C_7 (by simp), zl, fun l4 hl4 => ?_⟩
 have l43 : l4 ≠ l3 := (Qf Qd hl4).symm
 refine ⟨l3, l4, _, _, rfl, rfl, (Qh l43.symm).trans Qd, Qd, show 6 + 2 ≤ sizeLine by decide, fun l5 hl5 => ?_⟩
 have ha5 := Qir (u := .lst (([V.bl (D == C_0), V.bl (D == C_1), V.bl (D == C_2), V.bl (D == C_3)] ++ [V.bl (D == C_4), V.bl (D == C_5)]) ++ [V.bl (D == C_6), V.bl (D == C_7)])) (Qir ha3 hl4) hl5
 refine ⟨_, rfl, a, D, _, _, _, rfl, ha5, hi, rfl, Z.house D hD, _, rfl, QaK ⟨_, rfl, a, D, _, _, _, rfl, ha5, hi, rfl, Z.value D hD, _, rfl, QaK ?_⟩⟩
 refine ⟨_, rfl, .inl ⟨rfl, _, SqL.of Qd⟩, l5, [D == C_0, D == C_1, D == C_2, D == C_3, D == C_4, D == C_5, D == C_6, D == C_7], rfl, rfl, Qd, rfl, ?_⟩
 have e1 := QlW Z.nd hD
 rw [show ([D == C_0, D == C_1, D == C_2, D == C_3, D == C_4, D == C_5, D == C_6, D == C_7] : List Bool) = ([C_0, C_1, C_2, C_3, C_4, C_5, C_6, C_7].map fun D' => D == D') from rfl, e1]
 exact k _ (((((Same.new hl).trans (Same.new hl2)).trans (Same.new hl3)).trans (Same.new hl4)).trans (Same.new hl5))
end
end LW
namespace LW
open PySem L2 PySem.W
structure Qja (S : HS) (name first : Int) : Prop where
 nm : name ∉ names S
 sh : QbD name
 fs : first = name ∨ ∃ (i : Nat) (b : Box), S.boxes[i]? = some b ∧ first = b.name
 sl : S.slots.length = 4
section
variable {C : Addr}
theorem QfV {x k : Int} {A B : Prop} (h1 : x = k → A) (h2 : x ≠ k → B) : if decide (V.int x = V.int k) = true then A else B := Qgr (fun h => h1 (V.int.inj (of_decide_eq_true h))) fun h => h2 fun z => h (decide_eq_true (by rw [z]))
def QiK (C X : Addr) : Sp := fun vs H Q E => ∃ (p : Addr) (A : HA) (S : HS) (way name first : Int), vs = [.ref p, .int way, .int name, .int first] ∧ HouseAt C H p A S ∧ Qja S name first ∧ 0 ≤ way ∧ (11 ≤ way → Q .non H) ∧ (way ≤ 10 → ∀ H', Same H H' → E (.ref X) none H')
theorem Qgb (F : Fun K "_law_early" "_law_early" QbZ f fd) (T : TX K mg C) {C_0 C_1 C_2 C_3 : Addr} (MX1_ : MethX P w K mg base C n "kind" ["self", "name"] (QaL C C_2) [[]])
  (MX2_ : MethX P w K mg base C n "size" ["self", "name"] (QaL C C_2) [[]])
  (MX3_ : MethX P w K mg base C n "field" ["self", "name", "at"] (Qho C C_2 C_3) [[]])
  (MX4_ : MethX P w K mg base C n "put" ["self", "name", "at", "thing"] (Qj3 C C_2 C_3) [[]])
  (MX5_ : MethX P w K mg base C n "hold" ["self", "slot", "thing"] (QiH C C_0 C_2) [[]])
  (MX6_ : MethX P w K mg base C n "swap" ["self", "name", "other"] (Qdv C C_2) [[]])
  (MX7_ : MethX P w K mg base C n "watch" ["self", "guard", "name"] (Qbi C C_1 C_2) [[]])
  (MX8_ : MethX P w K mg base C n "leave" ["self", "guard", "name"] (Qbi C C_1 C_2) [[]])
  (DX9_ : DefX P w K mg base n "sweep" ["house", "besides"] (QaL C C_2) [[]]) :
  FnOk P w K mg base (CXF P w) (n + 1) f fd ["house", "way", "name", "first"] (QiK C C_2) := by
 refine F.okX QfZ (by rintro _ _ _ _ ⟨_, _, _, _, _, _, rfl, _⟩; rfl) fun _ _ _ s H vs Q E hr h => ?_
 obtain ⟨p, A', S, way, name, first, rfl, hh, g, h_0, k11, kE⟩ := h
 have hu := Qu hr
 refine ⟨_, (Qb (QA (Qp ZC (pv 1) Qi (Qv _)) (Qe (Qk (qmx MX1_ (pv 0) T.cl Ql hr (Qa (pv 2) Qc)))) Qn)
  (Qb (QA (Qp ZC (pv 1) Qi (Qv _)) (Qe (Qk (qmx MX2_ (pv 0) T.cl Ql hr (Qa (pv 2) Qc)))) Qn)
  (Qb (QA (Qp ZC (pv 1) Qi (Qv _)) (Qe (Qk (qmx MX3_ (pv 0) T.cl Ql hr (Qa (pv 2) (Qa Qi Qc))))) Qn)
  (Qb (QA (Qp ZC (pv 1) Qi (Qv _)) (Qe (Qk (qmx MX4_ (pv 0) T.cl Ql hr (Qa (pv 2) (Qa Qi (Qa Qdc Qc)))))) Qn)
  (Qb (QA (Qp ZC (pv 1) Qi (Qv _)) (Qe (Qk (qmx MX4_ (pv 0) T.cl Ql hr (Qa (pv 3) (Qa Qi (Qa (QaE (Qa Qab (Qa (pv 2) Qc))) Qc)))))) Qn)
  (Qb (QA (Qp ZC (pv 1) Qi (Qv _)) (Qe (Qk (qmx MX5_ (pv 0) T.cl Ql hr (Qa Qi (Qa (QaE (Qa Qab (Qa (pv 2) Qc))) Qc))))) Qn)
  (Qb (QA (Qp ZC (pv 1) Qi (Qv _)) (Qe (Qk (qmx MX6_ (pv 0) T.cl Ql hr (Qa (pv 2) (Qa (pv 3) Qc))))) Qn)
  (Qb (QA (Qp ZC (pv 1) Qi (Qv _)) (Qe (Qk (qmx MX6_ (pv 0) T.cl Ql hr (Qa (pv 3) (Qa (pv 2) Qc))))) Qn)
  (Qb (QA (Qp ZC (pv 1) Qi (Qv _)) (Qe (Qk (qmx MX7_ (pv 0) T.cl Ql hr (Qa Qi (Qa (pv 2) Qc))))) Qn)
  (Qb (QA (Qp ZC (pv 1) Qi (Qv _)) (Qe (Qk (qmx MX8_ (pv 0) T.cl Ql hr (Qa Qi (Qa (pv 2) Qc))))) Qn)
  (Qe (QA (Qp ZC (pv 1) Qi (Qv _)) (Qe (Qk (qcx DX9_ Ql hr (Qa (pv 0) (Qa (pv 2) Qc))))) Qn)))))))))))), ?_⟩
 refine ⟨_, rfl, rfl, _, rfl, QfV (fun h => ?_) fun h0 => ?_⟩
 ·exact ⟨_, rfl, p, A'.dx, _, rfl, hh.ob, Qj, _, rfl, p, A', S, name, rfl, hh, g.nm, g.sh, kE (by omega) _ (Same.refl _)⟩
 refine ⟨_, rfl, rfl, _, rfl, QfV (fun h => ?_) fun h1 => ?_⟩
 ·exact ⟨_, rfl, p, A'.dx, _, rfl, hh.ob, Qj, _, rfl, p, A', S, name, rfl, hh, g.nm, g.sh, kE (by omega) _ (Same.refl _)⟩
 refine ⟨_, rfl, rfl, _, rfl, QfV (fun h => ?_) fun h2 => ?_⟩
 ·exact ⟨_, rfl, p, A'.dx, _, rfl, hh.ob, Qj, _, rfl, p, A', S, name, 0, rfl, hh, .inl ⟨g.nm, g.sh, kE (by omega) _ (Same.refl _)⟩⟩
 refine ⟨_, rfl, rfl, _, rfl, QfV (fun h => ?_) fun h3 => ?_⟩
 ·exact ⟨_, rfl, p, A'.dx, _, rfl, hh.ob, Qj, _, rfl, p, A', S, name, 0, .non, rfl, hh, .inl ⟨g.nm, g.sh, kE (by omega) _ (Same.refl _)⟩⟩
 refine ⟨_, rfl, rfl, _, rfl, QfV (fun h => ?_) fun h4 => ?_⟩
 ·refine ⟨_, rfl, p, A'.dx, _, rfl, hh.ob, Qj, _, rfl, _, rfl, zl, fun b hb => ⟨p, A', S, first, 0, .ref b, rfl, hh.new hb, ?_⟩⟩
  rcases g.fs with rfl | ⟨i, bb, hi, rfl⟩
  ·exact .inl ⟨g.nm, g.sh, kE (by omega) _ (Same.new hb)⟩
  ·exact .inr ⟨i, bb, hi, rfl, .inl ⟨name, ⟨b, rfl, Qd⟩, g.nm, g.sh, kE (by omega) _ (Same.new hb)⟩⟩
 refine ⟨_, rfl, rfl, _, rfl, QfV (fun h => ?_) fun h5 => ?_⟩
 ·exact ⟨_, rfl, p, A'.dx, _, rfl, hh.ob, Qj, _, rfl, zl, fun b hb => ⟨p, A', S, 0, .ref b, rfl, hh.new hb, .inr ⟨by decide, by have := g.sl; omega, name, ⟨b, rfl, Qd⟩, g.nm, g.sh, kE (by omega) _ (Same.new hb)⟩⟩⟩
 refine ⟨_, rfl, rfl, _, rfl, QfV (fun h => ?_) fun h6 => ?_⟩
 ·exact ⟨_, rfl, p, A'.dx, _, rfl, hh.ob, Qj, _, rfl, _, rfl, p, A', S, name, first, rfl, hh, .inl ⟨g.nm, g.sh, kE (by omega) _ (Same.refl _)⟩⟩
 refine ⟨_, rfl, rfl, _, rfl, QfV (fun h => ?_) fun h7 => ?_⟩
 ·refine ⟨_, rfl, p, A'.dx, _, rfl, hh.ob, Qj, _, rfl, _, rfl, p, A', S, first, name, rfl, hh, ?_⟩
  rcases g.fs with rfl | ⟨i, bb, hi, rfl⟩
  ·exact .inl ⟨g.nm, g.sh, kE (by omega) _ (Same.refl _)⟩
  ·exact .inr ⟨Qaw hi, g.nm, g.sh, kE (by omega) _ (Same.refl _)⟩
 refine ⟨_, rfl, rfl, _, rfl, QfV (fun h => ?_) fun h8 => ?_⟩
 ·exact ⟨_, rfl, p, A'.dx, _, rfl, hh.ob, Qj, _, rfl, p, A', S, 1, name, rfl, hh, .inr ⟨by decide, by decide, g.nm, g.sh, kE (by omega) _ (Same.refl _)⟩⟩
 refine ⟨_, rfl, rfl, _, rfl, QfV (fun h => ?_) fun h9 => ?_⟩
 ·exact ⟨_, rfl, p, A'.dx, _, rfl, hh.ob, Qj, _, rfl, p, A', S, 1, name, rfl, hh, .inr ⟨by decide, by decide, g.nm, g.sh, kE (by omega) _ (Same.refl _)⟩⟩
 refine ⟨_, rfl, rfl, _, rfl, QfV (fun h => ?_) fun h10 => ?_⟩
 ·exact ⟨_, rfl, _, rfl, p, A', S, name, rfl, hh, g.nm, g.sh, kE (by omega) _ (Same.refl _)⟩
 exact k11 (by omega)
def Qj7 (C X : Addr) : Sp := fun vs H _ E => ∃ (p : Addr) (A : HA) (S : HS) (way name first : Int), vs = [.ref p, .int way, .int name, .int first] ∧ HouseAt C H p A S ∧ Qja S name first ∧ ClosedB S.boxes ∧ S.boxes.length ≤ 900 ∧ 11 ≤ way ∧ way ≤ 21 ∧ ∀ H', Same H H' → E (.ref X) none H'
theorem QeR {t_db t_fd : Tok} (F : Fun K "_law_late" "_law_late" Qcu f fd) (T : TX K mg C) {C_0 C_2 : Addr} (DX2_ : DefX P w K mg base n "walk" ["house", "name"] (Qdt C C_2) [[]])
  (DX3_ : DefX P w K mg base n "alike" ["house", "name", "other"] (Qhq C C_2) [[]])
  (DX4_ : DefX P w K mg base n "apart" ["house", "name", "other"] (Qdv C C_2) [[]])
  (DX1_ : DefX P w K mg base n "doubled" ["house", "name", "slot"] (QbP C C_0 C_2) [[], [.int 0 t_db]])
  (DX5_ : DefX P w K mg base n "folded" ["house", "name", "slot"] (QbP C C_0 C_2) [[], [.int 0 t_fd]])
  (DX6_ : DefX P w K mg base n "shown" ["house", "name"] (QaL C C_2) [[]])
  (MX7_ : MethX P w K mg base C n "swap" ["self", "name", "other"] (Qdv C C_2) [[]]) :
  FnOk P w K mg base (CXF P w) (n + 1) f fd ["house", "way", "name", "first"] (Qj7 C C_2) := by
 obtain ⟨f1_, fd1_, n1_, k1_, J1_, c1_⟩ := DX1_
 refine F.okX QgI (by rintro _ _ _ _ ⟨_, _, _, _, _, _, rfl, _⟩; rfl) fun _ _ _ s H vs Q E hr h => ?_
 obtain ⟨p, A', S, way, name, first, rfl, hh, g, hcl, few, h_11, h_21, kE⟩ := h
 have hu := Qu hr
 refine ⟨_, (Qb (QA (Qp ZC (pv 1) Qi (Qv _)) (Qe (Qk (qcx DX2_ Ql hr (Qa (pv 0) (Qa (pv 2) Qc))))) Qn)
  (Qb (QA (Qp ZC (pv 1) Qi (Qv _)) (Qe (Qk (qcx DX3_ Ql hr (Qa (pv 0) (Qa (pv 2) (Qa (pv 3) Qc)))))) Qn)
  (Qb (QA (Qp ZC (pv 1) Qi (Qv _)) (Qe (Qk (qcx DX3_ Ql hr (Qa (pv 0) (Qa (pv 3) (Qa (pv 2) Qc)))))) Qn)
  (Qb (QA (Qp ZC (pv 1) Qi (Qv _)) (Qe (Qk (qcx DX4_ Ql hr (Qa (pv 0) (Qa (pv 2) (Qa (pv 3) Qc)))))) Qn)
  (Qb (QA (Qp ZC (pv 1) Qi (Qv _)) (Qe (Qk (qcx DX4_ Ql hr (Qa (pv 0) (Qa (pv 3) (Qa (pv 2) Qc)))))) Qn)
  (Qb (QA (Qp ZC (pv 1) Qi (Qv _)) (Qe (Qk (QgM J1_ hr (by rfl) n1_ k1_ (c1_ [.int 0 t_db] (by simp)) (vals_1 0 t_db) (Ql.passes (fun _ _ z => z)) (Qa (pv 0) (Qa (pv 2) Qc))))) Qn)
  (Qb (QA (Qp ZC (pv 1) Qi (Qv _)) (Qe (Qk (qcx DX5_ Ql hr (Qa (pv 0) (Qa (pv 2) (Qa Qi Qc)))))) Qn)
  (Qb (QA (Qp ZC (pv 1) Qi (Qv _)) (Qe (Qk (qcx DX6_ Ql hr (Qa (pv 0) (Qa (pv 2) Qc))))) Qn)
  (Qb (QA (Qp ZC (pv 1) Qi (Qv _)) (Qe (Qk (qmx MX7_ (pv 0) T.cl Ql hr (Qa (pv 2) (Qa (pv 2) Qc))))) Qn)
  (Qb (QA (Qp ZC (pv 1) Qi (Qv _)) (Qe (Qk (qcx DX3_ Ql hr (Qa (pv 0) (Qa (pv 2) (Qa (pv 2) Qc)))))) Qn)
  (Qe (QA (Qp ZC (pv 1) Qi (Qv _)) (Qe (Qk (qcx DX4_ Ql hr (Qa (pv 0) (Qa (pv 2) (Qa (pv 2) Qc)))))) Qn)))))))))))), ?_⟩
 refine ⟨_, rfl, rfl, _, rfl, QfV (fun h => ?_) fun h11 => ?_⟩
 ·exact ⟨_, rfl, _, rfl, p, A', S, name, rfl, hh, g.nm, g.sh, kE _ (Same.refl _)⟩
 refine ⟨_, rfl, rfl, _, rfl, QfV (fun h => ?_) fun h12 => ?_⟩
 ·exact ⟨_, rfl, _, rfl, _, rfl, p, A', S, name, first, rfl, hh, .inl ⟨g.nm, g.sh, kE _ (Same.refl _)⟩⟩
 refine ⟨_, rfl, rfl, _, rfl, QfV (fun h => ?_) fun h13 => ?_⟩
 ·refine ⟨_, rfl, _, rfl, _, rfl, p, A', S, first, name, rfl, hh, ?_⟩
  rcases g.fs with rfl | ⟨i, bb, hi, rfl⟩
  ·exact .inl ⟨g.nm, g.sh, kE _ (Same.refl _)⟩
  ·exact .inr ⟨Qaw hi, hcl, few, g.nm, g.sh, kE⟩
 refine ⟨_, rfl, rfl, _, rfl, QfV (fun h => ?_) fun h14 => ?_⟩
 ·exact ⟨_, rfl, _, rfl, _, rfl, p, A', S, name, first, rfl, hh, .inl ⟨g.nm, g.sh, kE _ (Same.refl _)⟩⟩
 refine ⟨_, rfl, rfl, _, rfl, QfV (fun h => ?_) fun h15 => ?_⟩
 ·refine ⟨_, rfl, _, rfl, _, rfl, p, A', S, first, name, rfl, hh, ?_⟩
  rcases g.fs with rfl | ⟨i, bb, hi, rfl⟩
  ·exact .inl ⟨g.nm, g.sh, kE _ (Same.refl _)⟩
  ·exact .inr ⟨Qaw hi, g.nm, g.sh, kE _ (Same.refl _)⟩
 refine ⟨_, rfl, rfl, _, rfl, QfV (fun h => ?_) fun h16 => ?_⟩
 ·exact ⟨_, rfl, _, rfl, p, A', S, name, 0, rfl, hh, .inr ⟨by decide, by have := g.sl; omega, g.nm, g.sh, kE _ (Same.refl _)⟩⟩
 refine ⟨_, rfl, rfl, _, rfl, QfV (fun h => ?_) fun h17 => ?_⟩
 ·exact ⟨_, rfl, _, rfl, p, A', S, name, 3, rfl, hh, .inr ⟨by decide, by have := g.sl; omega, g.nm, g.sh, kE _ (Same.refl _)⟩⟩
 refine ⟨_, rfl, rfl, _, rfl, QfV (fun h => ?_) fun h18 => ?_⟩
 ·exact ⟨_, rfl, _, rfl, p, A', S, name, rfl, hh, g.nm, g.sh, kE _ (Same.refl _)⟩
 refine ⟨_, rfl, rfl, _, rfl, QfV (fun h => ?_) fun h19 => ?_⟩
 ·exact ⟨_, rfl, p, A'.dx, _, rfl, hh.ob, Qj, _, rfl, _, rfl, p, A', S, name, name, rfl, hh, .inl ⟨g.nm, g.sh, kE _ (Same.refl _)⟩⟩
 refine ⟨_, rfl, rfl, _, rfl, QfV (fun h => ?_) fun h20 => ?_⟩
 ·exact ⟨_, rfl, _, rfl, _, rfl, p, A', S, name, name, rfl, hh, .inl ⟨g.nm, g.sh, kE _ (Same.refl _)⟩⟩
 refine ⟨_, rfl, rfl, _, rfl, QfV (fun h => ?_) fun h21 => ?_⟩
 ·exact ⟨_, rfl, _, rfl, _, rfl, p, A', S, name, name, rfl, hh, .inl ⟨g.nm, g.sh, kE _ (Same.refl _)⟩⟩
 exact absurd rfl (show (0 : Nat) ≠ 0 by omega)
def Qhn (C : Addr) : Sp := fun vs H Q _ => ∃ (p : Addr) (A : HA) (S : HS) (way name first : Int), vs = [.ref p, .int way, .int name, .int first] ∧ HouseAt C H p A S ∧ Qja S name first ∧ ClosedB S.boxes ∧ S.boxes.length ≤ 900 ∧ 0 ≤ way ∧ way ≤ 21 ∧ ∀ H', Same H H' → Q (.bl true) H'
theorem QeQ (F : Fun K "_law_refused" "_law_refused" Qba f fd) (T : TX K mg C) {C_8 C_0 C_1 C_2 C_3 C_4 C_5 C_6 C_7 : Addr} (gx_8 : mg "HouseError" = some (.ref C_8)) (gx_2 : mg "NoBox" = some (.ref C_2)) (Z : XC K C_8 [C_0, C_1, C_2, C_3, C_4, C_5, C_6, C_7]) (DX1_ : DefX P w K mg base n "_law_early" ["house", "way", "name", "first"] (QiK C C_2) [[]])
  (DX2_ : DefX P w K mg base n "_law_late" ["house", "way", "name", "first"] (Qj7 C C_2) [[]])
  (D3_ : DefOk P w K mg base n "_law_alone" ["e"] (Qkd [C_0, C_1, C_2, C_3, C_4, C_5, C_6, C_7]) [[]]) :
  FnOk P w K mg base CX0 (n + 1) f fd ["house", "way", "name", "first"] (Qhn C) := by
 obtain ⟨f1_, fd1_, n1_, k1_, J1_, c1_⟩ := DX1_
 obtain ⟨f2_, fd2_, n2_, k2_, J2_, c2_⟩ := DX2_
 refine F.ok QaO (by rintro _ _ _ _ ⟨_, _, _, _, _, _, rfl, _⟩; rfl) fun _ _ _ s H vs Q E hr h => ?_
 obtain ⟨p, A', S, way, name, first, rfl, hh, g, hcl, few, h_0, h_21, q⟩ := h
 have hu := Qu hr
 let EX : XK := fun c _ H' => Same H H' ∧ c = .ref C_2
 have hEx : ∀ D H', EX (.ref D) none H' → exmOne K (.ref D) (.ref C_8) = some true := fun D H' z => by injection z.2 with z; subst z; exact Z.mat _ (by simp)
 refine ⟨_, (Qb (Qw (i := 4) QaO.nd rfl (Or.inl rfl) Qdc)
  (Qb (ps_try rfl rfl rfl QaO.nd (i := 5) (j := 4) rfl rfl (by decide) rfl rfl (by rfl) gx_8 hEx (Qlu (Qkl (QiT J1_ hr (by rfl) n1_ k1_ (c1_ [] (by simp)) .nil rfl (Qa (pv 0) (Qa (pv 1) (Qa (pv 2) (Qa (pv 3) Qc))))))
  (QmO (Qkl (QiT J2_ hr (by rfl) n2_ k2_ (c2_ [] (by simp)) .nil rfl (Qa (pv 0) (Qa (pv 1) (Qa (pv 2) (Qa (pv 3) Qc)))))))))
  (Qe (Qq (QdK (Qo ZF (by rfl) T.g_isi PyProof.Rows.boot_isinstance (Qa (pv 4) (Qa (Qac (v := .ref C_2) (by rfl) gx_2 rfl) Qc))) (Qfo (qc D3_ hr (Qa (pv 4) Qc)))))))), ?_⟩
 refine ⟨?_, ?_⟩
 ·refine ⟨_, rfl, _, rfl, _, rfl, _, rfl, p, A', S, way, name, first, rfl, hh, g, h_0, fun h11 => ⟨rfl, ?_⟩, fun _ H' s => ⟨s, rfl⟩⟩
  exact ⟨_, rfl, _, rfl, _, rfl, _, rfl, p, A', S, way, name, first, rfl, hh, g, hcl, few, h11, h_21, fun H' s => ⟨s, rfl⟩⟩
 ·rintro a D H' hn' ⟨s', hD⟩
  injection hD with hD
  subst hD
  have hDm : D ∈ [C_0, C_1, D, C_3, C_4, C_5, C_6, C_7] := by simp
  have hi := Z.isi D hDm
  have o := Z.one D hDm
  have ha : (upd H' a (Qmu a D)) a = some (Qmu a D) := Qd
  have s1 : Same H (upd H' a (Qmu a D)) := s'.trans (Same.new hn')
  generalize upd H' a (Qmu a D) = H1 at ha s1 ⊢
  refine ⟨_, rfl, a, D, _, _, _, rfl, ha, hi, rfl, o D (by simp), _, rfl, iteA (by simp) ⟨_, rfl, a, D, rfl, ha, hDm, fun H3 s3 => q _ (s1.trans s3)⟩⟩
end
section
variable {H : Hp} {W : List Rt} {i g : Nat} {a b l : Addr} {al : List Addr} {xss : List (List Int)} {xs : List Int} {vs : List V}
theorem Own.lst (w : Own H W) (h : W[i]? = some (rLst a vs)) : H a = some (.lst vs) := by
 obtain ⟨F, q, _⟩ := w.get h
 exact q
end
section
variable {H H' : Hp} {W : List Rt} {i : Nat} {C p : Addr} {S : HS}
theorem Own.houseAdd (w : Own H W) (h : W[i]? = some (Qcy C p S)) : ∃ A, HouseAt C H p A S ∧
  ∀ A' H' S' r F, Upto C H p A H' A' S' → Rt.on r H' F → F.Nodup → Grown (A.foot p) F H → (∀ b ∈ F, b ∉ A'.foot p) → Own H' (r :: W.set i (Qcy C p S')) := by
 obtain ⟨Fs, q, nd⟩ := w
 obtain ⟨F0, hF, A, hh, rfl⟩ := Zt q h
 obtain ⟨n1, n2, n3⟩ := QgZ hF nd
 have th : ∀ b ∈ QaU Fs i, ∃ o, H b = some o := fun b hb => by
  obtain ⟨G, hG, hb⟩ := List.mem_flatten.mp hb
  obtain ⟨j, hj⟩ := List.getElem?_of_mem (List.mem_of_mem_eraseIdx hG)
  obtain ⟨r2, _, q2⟩ := QM q hj
  exact r2.there q2 b hb
 refine ⟨A, hh, fun A' H' S' r F u hr ndF gr no => ?_⟩
 have im : Imm H H' := ⟨u.tu, hh.frz u.fr⟩
 refine ⟨F :: Fs.set i (A'.foot p), .cons hr (Qed q ⟨A', u.hh, rfl⟩ fun j a b hj h1 h2 z => a.keep z (fun c hc => ?_) im), ?_⟩
 ·have hc' : c ∈ QaU Fs i := List.mem_flatten.mpr ⟨b, List.mem_iff_getElem?.mpr (by
   by_cases e : j < i
   ·exact ⟨j, by rw [List.getElem?_eraseIdx_of_lt e]; exact h2⟩
   ·have e : i < j := by omega
    obtain ⟨k, rfl⟩ : ∃ k, j = k + 1 := ⟨j - 1, by omega⟩
    exact ⟨k, by rw [List.getElem?_eraseIdx_of_ge (by omega)]; exact h2⟩), hc⟩
  obtain ⟨o, e⟩ := th c hc'
  rw [e]
  exact u.fr c o e fun m => n3 c m hc'
 ·rw [List.flatten_cons]
  refine List.nodup_append.mpr ⟨ndF, Qim hF (HA.footNd u.hh) n2 (fun b hb hz => ?_), fun x hx y hy e => ?_⟩
  ·rcases u.gr b hb with z | z
   ·exact n3 b z hz
   ·obtain ⟨o, e⟩ := th b hz
    rw [z] at e; cases e
  ·subst e
   rcases QcG hy with z | z
   ·exact no x hx z
   ·rcases gr x hx with q | q
    ·exact n3 x q z
    ·obtain ⟨o, e⟩ := th x z
     rw [q] at e; cases e
end
theorem Qgw {te : TE} {σ : St} {fr : List Nat} {H : Hp} {Q : VK} {xss : List (List Int)} (h4 : xss.length = 4)
  (hs : ∀ (i : Nat) (xs : List Int) (H' : Hp) (Q' : VK), i < 4 → xss[i]? = some xs → Same H H' → (∀ l, H' l = none → Q' (.ref l) (upd H' l (.lst (xs.map V.int)))) → te (some (.int (0 + (i : Int))) :: Qc1 σ fr) H' Q')
  (hd : ∀ l H', Same H H' → LlsNew H H' l xss → Q (.ref l) H') : QiE fr Qc0 te σ Q (Itr 0 4) H := by
 refine Qaq (lo := 0) (n := 4) (fun i ys H' => Same H H' ∧ ∃ as : List Addr, ys = as.map V.ref ∧ Paired (QjK H') (xss.take i) as ∧ as.Nodup ∧ ∀ a ∈ as, H a = none) ⟨Same.refl _, [], rfl, .nil, List.nodup_nil, by simp⟩ ?_ (zl) ?_ ?_
 ·rintro i ys H' ⟨_, as, rfl, h, _⟩
  rw [List.length_map, ← QG h, List.length_take]; omega
 ·rintro i ys H' hi ⟨s, as, rfl, h, nd, fr⟩
  obtain ⟨xs, hx⟩ : ∃ xs, xss[i]? = some xs := ⟨_, List.getElem?_eq_getElem (by omega)⟩
  dsimp only [Qc0]
  refine QaK (hs i xs H' _ hi hx s fun l hl => ?_)
  have out : l ∉ as := fun m => by
   obtain ⟨j, hj⟩ := List.getElem?_of_mem m
   obtain ⟨_, _, z⟩ := QM h hj
   have z : H' l = _ := z
   rw [hl] at z; cases z
  refine ⟨s.trans (Same.new hl), as ++ [l], by simp, ?_, List.nodup_append.mpr ⟨nd, by simp, fun x hx y hy e => out (by rw [← List.mem_singleton.mp hy, ← e]; exact hx)⟩, fun a ha => ?_⟩
  ·rw [show xss.take (i + 1) = xss.take i ++ [xs] by rw [List.take_add_one, hx]; rfl]
   exact Qbc (QH (fun x a _ _ z => Zk z hl) h) (.cons Qd .nil)
  ·rcases List.mem_append.mp ha with z | z
   ·exact fr a z
   ·rw [List.mem_singleton.mp z]; exact s.free hl
 ·rintro ys H' ⟨s, as, rfl, h, nd, fr⟩ l hl
  rw [List.take_of_length_le (by omega)] at h
  refine hd l _ (s.trans (Same.new hl)) ⟨as, ⟨Qd, QH (fun x a _ _ z => Zk z hl) h⟩, List.nodup_cons.mpr ⟨fun m => ?_, nd⟩, fun b hb => ?_⟩
  ·obtain ⟨j, hj⟩ := List.getElem?_of_mem m
   obtain ⟨_, _, z⟩ := QM h hj
   have z : H' l = _ := z
   rw [hl] at z; cases z
  ·rcases List.mem_cons.mp hb with z | z
   ·rw [z]; exact s.free hl
   ·exact fr b z
theorem Qi9 {S : HS} (okW : S.OkW) : (∀ xs ∈ S.queues, xs.length ≤ 1000) ∧ ∀ xs ∈ S.told, xs.length ≤ 1000 := by
 have lens := okW.q.few
 refine ⟨fun xs hx => ?_, fun xs hx => ?_⟩
 ·obtain ⟨g, hg⟩ := List.getElem?_of_mem hx
  have hg4 : g < S.told.length := by have := (List.getElem?_eq_some_iff.mp hg).1; have := okW.q.q4; have := okW.q.t4; omega
  have := lens g xs _ hg (List.getElem?_eq_getElem hg4)
  omega
 ·obtain ⟨g, hg⟩ := List.getElem?_of_mem hx
  have hg4 : g < S.queues.length := by have := (List.getElem?_eq_some_iff.mp hg).1; have := okW.q.q4; have := okW.q.t4; omega
  have := lens g _ xs (List.getElem?_eq_getElem hg4) hg
  omega
theorem QjI {S : HS} (okW : S.OkW) : ClosedB S.boxes := fun b hb => ⟨okW.ok.eight b hb, fun m hm => okW.ok.row b hb _ hm m rfl⟩
section
variable {C CS : Addr}
def Qlr (K : Fg) : Sp := fun vs H Q _ => ∃ (a : Addr) (ns : List Int), vs = [.ref a] ∧ Scr K H a ns ∧ ns.length ≤ 63 ∧ ∀ H', Q (.bl true) H'
theorem QjD : Qz (Qg ZW) ["script", "many", "made", "house", "gone", "stands", "slots", "waits", "words", "k", "name", "first", "way"] (QD ((QaJ (QeB (Qr ZW) 7)))) "slot" ["house"] [3] :=
 bsk
theorem QjC : Qz (Qg ZW) ["script", "many", "made", "house", "gone", "stands", "slots", "waits", "words", "k", "name", "first", "way"] (QD ((QaJ (QeB (Qr ZW) 8)))) "guard" ["house"] [3] :=
 bsk
theorem QjB : Qz (Qg ZW) ["script", "many", "made", "house", "gone", "stands", "slots", "waits", "words", "k", "name", "first", "way"] (QD ((QaJ (QeB (Qr ZW) 9)))) "guard" ["house"] [3] :=
 bsk
theorem QlC (F : Fun K "law" "law" ZW f fd) (T : TX K mg C) (D2_ : DefOk P w K mg base n "_law_many" ["script"] (Qj5 K) [[]])
  (D3_ : DefOk P w K mg base n "_law_graph" ["script", "many"] (Qkb K) [[]])
  (D4_ : DefOk P w K mg base n "_law_house" ["kinds", "rows", "slots", "extra"] (Qj9 C) [[]])
  (D5_ : DefOk P w K mg base n "_law_slots" ["script", "count", "many"] (Qj1 K) [[]])
  (D6_ : DefOk P w K mg base n "_law_watched" ["house", "waits"] (Qhk C) [[]])
  (D7_ : DefOk P w K mg base n "_law_waits" ["script", "many"] (QjY K) [[]])
  (D1_ : DefOk P w K mg base n "sweep" ["house", "besides"] (Qj0 C) [[], [.none]])
  (D8_ : DefOk P w K mg base n "_law_read" ["house"] (Ql6 C) [[]])
  (M9_ : MethOk P w K mg base C n "held" ["self", "slot"] (Qka C) [[]])
  (M10_ : MethOk P w K mg base C n "waiting" ["self", "guard"] (Qdu C) [[]])
  (M11_ : MethOk P w K mg base C n "words" ["self", "guard"] (Qh7 C) [[]])
  (D12_ : DefOk P w K mg base n "_law_draw" ["script", "k"] (Qdf K) [[]])
  (M13_ : MethOk P w K mg base C n "names" ["self"] (Qea C) [[]])
  (D14_ : DefOk P w K mg base n "_law_refused" ["house", "way", "name", "first"] (Qhn C) [[]])
  (D15_ : DefOk P w K mg base n "_law_guards" ["house", "waits", "told"] (QiI C) [[]])
  (D16_ : DefOk P w K mg base n "_law_as" ["house", "kinds", "rows", "slots"] (spAs C) [[]]) :
  FnOk P w K mg base CX0 (n + 1) f fd ["script"] (Qlr K) := by
 obtain ⟨f1_, fd1_, n1_, k1_, J1_, c1_⟩ := D1_
 refine F.ok Zs (by rintro _ _ _ _ ⟨_, _, rfl, _⟩; rfl) fun _ _ _ s H vs Q E hr h => ?_
 obtain ⟨a, ns, rfl, hS, hlen, q⟩ := h
 have hu := Qu hr
 refine ⟨_, (Qb (Qw (i := 1) Zs.nd rfl (Or.inl rfl) (qc D2_ hr (Qa (pv 0) Qc)))
  (Qb (Qw (i := 2) Zs.nd rfl (Or.inl rfl) (qc D3_ hr (Qa (pv 0) (Qa (pv 1) Qc))))
  (Qb (Qw (i := 3) Zs.nd rfl (Or.inr rfl) (qc D4_ hr (Qa (Zf Qbp (pv 2) Qi (fun _ _ => rfl)) (Qa (Zf Qbp (pv 2) Qi (fun _ _ => rfl)) (Qa (qc D5_ hr (Qa (pv 0) (Qa Qi (Qa (pv 1) Qc)))) (Qa Qi Qc))))))
  (Qb (Qk (qc D6_ hr (Qa (pv 3) (Qa (qc D7_ hr (Qa (pv 0) (Qa (pv 1) Qc))) Qc))))
  (Qb (Qw (i := 4) Zs.nd rfl (Or.inl rfl) (Zf Qbp (QgM J1_ hr (by rfl) n1_ k1_ (c1_ [.none] (by simp)) Ql0 Qig (Qa (pv 3) Qc)) Qi (fun _ _ => rfl)))
  (Qb (QA (Qp (Qmj hr.units) (pv 4) (Zu Qc) (Qv _)) (Qe (Qw (i := 4) Zs.nd rfl (Or.inl rfl) (Zu (Qa Qi (Qa (QE Qah (pv 1) Qi) Qc))))) Qn)
  (Qb (Qw (i := 5) Zs.nd rfl (Or.inl rfl) (qc D8_ hr (Qa (pv 3) Qc)))
  (Qb (Zo (i := 6) QjD rfl Zs.nd rfl (Or.inl rfl) (QL (by rfl) T.g_range (Qa Qi Qc)) (fun _ _ _ _ => Zd) (fun _ _ _ _ => (qm M9_ (pv 1) T.cl hr (Qa (pv 0) Qc))))
  (Qb (Zo (i := 7) QjC rfl Zs.nd rfl (Or.inl rfl) (QL (by rfl) T.g_range (Qa Qi Qc)) (fun _ _ _ _ => Zd) (fun _ _ _ _ => (qm M10_ (pv 1) T.cl hr (Qa (pv 0) Qc))))
  (Qb (Zo (i := 8) QjB rfl Zs.nd rfl (Or.inl rfl) (QL (by rfl) T.g_range (Qa Qi Qc)) (fun _ _ _ _ => Zd) (fun _ _ _ _ => (qm M11_ (pv 1) T.cl hr (Qa (pv 0) Qc))))
  (Qb (Q7 PassesOwn.never rfl (QL (by rfl) T.g_range (Qa Qi Qc)) (QR (i := 9) Zs.nd rfl (Or.inl rfl))
  (Qb (Qw (i := 10) Zs.nd rfl (Or.inl rfl) (Zf QN (pv 4) (QE Zb (qc D12_ hr (Qa (pv 0) (Qa (QE Qah Qi (pv 9)) Qc))) (Qo Qs (by rfl) T.g_len PySem.boot_len (Qa (pv 4) Qc))) (fun _ _ => rfl)))
  (Qb (Qw (i := 11) Zs.nd rfl (Or.inl rfl) (Zf QN (QE Qky (qm0 M13_ (pv 3) T.cl hr) (Zu (Qa (pv 10) Qc))) Qi (fun _ _ => rfl)))
  (Qe (Q7 PassesOwn.never rfl (QL (by rfl) T.g_range (Qa Qi Qc)) (QR (i := 12) Zs.nd rfl (Or.inl rfl))
  (Qe (QA (PW.pt (QeH (Qbm (QaD (qc D14_ hr (Qa (pv 3) (Qa (pv 12) (Qa (pv 10) (Qa (pv 11) Qc))))))) (Qcc (Qbm (QaD (qc D14_ hr (Qa (pv 3) (Qa (pv 12) (Qa (pv 10) (Qa (pv 11) Qc)))))))))) (Qe (Qq Qce)) Qn)))))))
  (Qe (Qq (QdK (qc D16_ hr (Qa (pv 3) (Qa (Zf Qbp (pv 5) Qi (fun _ _ => rfl)) (Qa (Zf Qbp (pv 5) Qi (fun _ _ => rfl)) (Qa (pv 6) Qc))))) (Qfo (qc D15_ hr (Qa (pv 3) (Qa (pv 7) (Qa (pv 8) Qc))))))))))))))))))), ?_⟩
 have o0 : Own H [Qmc K a ns] := (Own.nil H).imm ⟨hS, rfl⟩
 refine ⟨_, rfl, a, ns, rfl, hS, fun many hm1 hm40 => ?_⟩
 refine ⟨_, rfl, _, rfl, a, ns, many, rfl, hS, hm1, by omega, fun m ak ar bs H1 s1 hm hR hnm hok => ?_⟩
 obtain ⟨F1, on1, nd1, fr1⟩ := hR.on
 have o1 : Own H1 [Qmb m [.ref ak, .ref ar], Qmd ak ar bs, Qmc K a ns] := (o0.add s1 on1 nd1 fr1).imm ⟨hm, rfl⟩
 have hbl : (bs.length : Int) = many := by
  have := congrArg List.length hnm
  rw [QJ, List.length_map] at this
  omega
 have hnm' : bs.map (·.name) = QK 1 bs.length := by rw [hnm]; congr 1; omega
 rw [← hbl] at hok
 have hm1' := o1.tup (i := 0) rfl
 refine ⟨_, rfl, m, _, 0, .ref ak, rfl, rfl, SqT.of hm1', rfl, _, rfl, m, _, 1, .ref ar, rfl, rfl, SqT.of hm1', rfl, _, rfl, _, rfl, a, ns, 4, many, rfl, o1.scr (i := 2) rfl, by decide, by decide, hm1, fun as ts H2 s2 fas hth htl hts => ?_⟩
 have o2 := o1.same s2
 obtain ⟨fl, hk, hr', pf⟩ := o2.rec (i := 1) rfl
 rw [← hbl] at hts
 refine ⟨ak, ar, as, fl, bs, ts, 1, rfl, hk, hr', pf, hth, hnm', by omega, hok, by omega, by omega, hts, by decide, fun p A3 H3 s3 hh3 f3 => ?_⟩
 have o3 : Own H3 [Qcy C p ⟨bs.length + 1, ts, bs.length, bs, e4, e4⟩, Qmb m [.ref ak, .ref ar], Qmd ak ar bs, Qmc K a ns] := o2.houseNew hh3 (Frame.of_same s3) f3
 refine ⟨_, rfl, _, rfl, _, rfl, a, ns, many, rfl, o3.scr (i := 3) rfl, hm1, fun wa xss H4 s4 hL hx4 hxo => ?_⟩
 obtain ⟨F4, on4, nd4, fr4⟩ := hL.on
 have o4 : Own H4 [QmM wa xss, Qcy C p ⟨bs.length + 1, ts, bs.length, bs, e4, e4⟩, Qmb m [.ref ak, .ref ar], Qmd ak ar bs, Qmc K a ns] := o3.add s4 on4 nd4 fr4
 obtain ⟨A4, al4, hh4, hl4, hd4, fin4⟩ := o4.houseLls (i := 1) (j := 0) (C := C) rfl rfl (by decide)
 refine ⟨p, wa, A4, _, al4, xss, rfl, hh4, hl4, hd4, rfl, hx4, fun xs hx => ⟨(hxo xs hx).1, (hxo xs hx).2.1, fun n' hn' => ?_⟩, fun A5 H5 hh5 fr5 tu5 gr5 => ?_⟩
 ·show n' ∈ bs.map (·.name)
  rw [hnm', ZG]
  have := (hxo xs hx).2.2 n' hn'
  omega
 obtain ⟨S, hSe⟩ : ∃ S : HS, S = ⟨bs.length + 1, ts, bs.length, bs, xss, e4⟩ := ⟨_, rfl⟩
 have o5 : Own H5 [QmM wa xss, Qcy C p S, Qmb m [.ref ak, .ref ar], Qmd ak ar bs, Qmc K a ns] := by rw [hSe]; exact fin4 A5 H5 _ hh5 fr5 tu5 gr5
 have okW : S.OkW := by rw [hSe]; exact QmW (n := bs.length) hnm' hok hts rfl (by omega) hx4 (fun xs hx => ⟨(hxo xs hx).1, (hxo xs hx).2.1, fun m' hm' => by have := (hxo xs hx).2.2 m' hm'; omega⟩)
 have hnS : names S = QK 1 bs.length := by rw [hSe]; exact hnm'
 have hslS : S.slots.length = 4 := by rw [hSe]; show ts.length = 4; omega
 clear hh5 fr5 tu5 gr5 fin4 hd4 hl4 hh4 o4 o3 hh3 o2 o1 hk hr' pf hm1' hSe
 obtain ⟨A5, hh5, fin5⟩ := o5.houseAdd (i := 1) (C := C) rfl
 refine ⟨_, rfl, p, A5, S, none, rfl, hh5, okW, (fun n e => by cases e), fun A6 H6 hA hB S' v l1 l2 l3 l4 as6 sw u6 told6 gr6 no6 nd6 => ?_⟩
 have okW' := sw.okW okW hh5.nm (fun n e => by cases e)
 have hsl' : S'.slots.length = 4 := by rw [sw.slots okW]; exact hslS
 have hn' := sw.names okW
 have hnm6 : names (S.loosened hA) = names S := (okW.loosened (hA := hA)).2.1
 have one : ∀ b ∈ [l1], b ∈ [l1, l2, l3, l4] := fun b hb => by
  have hb : b = l1 := by simpa using hb
  simp [hb]
 have o6 : Own H6 [rLst l1 ((Zg hB (S.loosened hA).boxes).map V.int), QmM wa xss, Qcy C p S', Qmb m [.ref ak, .ref ar], Qmd ak ar bs, Qmc K a ns] := fin5 A6 H6 S' _ [l1] u6 ⟨told6.g, rfl⟩ (by simp) (fun b hb => gr6 b (one b hb)) (fun b hb => no6 b (one b hb))
 have hgone : ∀ n ∈ Zg hB (S.loosened hA).boxes, n ∉ names S' ∧ QbD n := fun n hn => by
  obtain ⟨b, hb, rfl⟩ := List.mem_map.mp hn
  obtain ⟨hb1, hb2⟩ := List.mem_filter.mp hb
  have hb2 : ¬ b.name ∈ hB := by simpa using hb2
  have hbn : b.name ∈ names S := by rw [← hnm6]; exact List.mem_map.mpr ⟨b, hb1, rfl⟩
  rw [hnS, ZG] at hbn
  refine ⟨fun z => ?_, Qmn (by omega)⟩
  rw [hn'] at z
  exact hb2 (of_decide_eq_true (List.mem_filter.mp z).2)
 have hgl : (Zg hB (S.loosened hA).boxes).length ≤ 900 := by
  have h1 := List.length_filter_le (fun b : Box => !decide (b.name ∈ hB)) (S.loosened hA).boxes
  have h2 : (S.loosened hA).boxes.length = bs.length := by
   have := congrArg List.length (hnm6.trans hnS)
   rw [QJ] at this
   simpa [names] using this
  show (List.map _ _).length ≤ 900
  rw [List.length_map]; omega
 have hoff : ∀ n ∈ [0, many + 1], n ∉ names S' ∧ QbD n := fun n hn => by
  have hn : n = 0 ∨ n = many + 1 := by simpa using hn
  refine ⟨fun z => ?_, Qmn (by omega)⟩
  rw [hn'] at z
  have z := (List.mem_filter.mp z).1
  rw [hnS, ZG] at z
  omega
 have htu := told6.tu
 clear fin5 told6 u6 gr6 no6 nd6 hh5 o5 sw
 generalize Zg hB (S.loosened hA).boxes = gs at o6 hgone hgl
 refine ⟨v, _, 0, .ref l1, rfl, rfl, SqT.of htu, rfl, ?_⟩
 refine ⟨_, rfl, Nat.zero_le _, fun le hle => ?_⟩
 have o7 := o6.same (Same.new (o := .lst []) hle)
 have hl7 := o7.lst (i := 0) rfl
 refine ⟨l1, le, _, _, fun _ => true, rfl, rfl, hl7, Qd, fun j x y hx hy => by simp at hy, _, rfl, Qgr (fun he => ?ga) (fun he => ?gb)⟩
 case' ga =>
  refine ⟨_, rfl, _, _, rfl, rfl, zl, fun lg hlg => ?_⟩
  have o8 : Own (upd (upd H6 le (.lst [])) lg (.lst [V.int 0, V.int (many + 1)])) [rLst lg (([0, many + 1] : List Int).map V.int), QmM wa xss, Qcy C p S', Qmb m [.ref ak, .ref ar], Qmd ak ar bs, Qmc K a ns] := o7.tail.new hlg ⟨Qd, rfl⟩
  generalize upd (upd H6 le (.lst [])) lg (.lst [V.int 0, V.int (many + 1)]) = H8 at o8 ⊢
  have hne : ([0, many + 1] : List Int) ≠ [] := by simp
  have hg9 : ([0, many + 1] : List Int).length ≤ 900 := by show 2 ≤ 900; decide
  generalize ([0, many + 1] : List Int) = G at o8 hoff hne hg9
 case' gb =>
  have hne : gs ≠ [] := fun z => by
   subst z
   exact he (by decide)
  have o8 := o7
  generalize upd H6 le (.lst []) = H8 at o8 ⊢
  have hoff := hgone
  have hg9 := hgl
  generalize gs = G at o8 hoff hne hg9
  generalize l1 = lg at o8 ⊢
 all_goals
  have gpos : 0 < G.length := List.length_pos_iff.mpr hne
  obtain ⟨A8, hh8⟩ := o8.house (i := 2) (C := C) rfl
  refine ⟨_, rfl, p, A8, S', rfl, hh8, okW'.few, okW'.ok.eight, fun st nk nr H9 s9 hst hRN => ?_⟩
  obtain ⟨F9, on9, nd9, fr9⟩ := hRN.on
  have o9 := (o8.add s9 on9 nd9 fr9).imm (r := Qmb st [.ref nk, .ref nr]) ⟨hst, rfl⟩
  obtain ⟨A9, hh9⟩ := o9.house (i := 4) (C := C) rfl
  refine ⟨4, rfl, by decide, by decide, Qaq (lo := 0) (n := 4) (fun i ys H' => H' = H9 ∧ Ths H9 (S'.slots.take i) ys) ⟨rfl, .nil⟩ ?_ (zl) ?_ ?_⟩
  ·rintro i ys H' ⟨_, ht⟩
   rw [← QG ht, List.length_take]; omega
  ·rintro i ys H' hi ⟨rfl, ht⟩
   dsimp only [Qc0]
   rw [show (0 : Int) + (i : Int) = (i : Int) from Int.zero_add _]
   have hij : i < S'.slots.length := by omega
   refine QaK ⟨_, rfl, p, A9.dx, _, rfl, hh9.ob, Qj, _, rfl, p, A9, S', i, S'.slots[i], rfl, hh9, List.getElem?_eq_getElem hij, fun v tv => ⟨rfl, ?_⟩⟩
   rw [show S'.slots.take (i + 1) = S'.slots.take i ++ [S'.slots[i]] by rw [List.take_add_one, List.getElem?_eq_getElem hij]; rfl]
   exact Qbc ht (.cons tv .nil)
  rintro ys H' ⟨rfl, ht⟩ ls hls
  rw [List.take_of_length_le (by omega)] at ht
  have o10 := o9.new (r := rThs ls S'.slots) (o := .lst ys) hls ⟨⟨ys, Qd, Ths.keep (Tups.new hls) ht⟩, rfl⟩
  generalize upd H' ls (.lst ys) = H10 at o10 ⊢
  clear o9 hh9 ht hls
  obtain ⟨A10, hh10⟩ := o10.house (i := 5) (C := C) rfl
  refine ⟨4, rfl, by decide, by decide, Qgw okW'.q.q4 (fun i xs H' Q' hi hx s k => ?_) fun wl H11 s11 hL11 => ?_⟩
  ·rw [show (0 : Int) + (i : Int) = (i : Int) from Int.zero_add _]
   have hh' := hh10.same s
   exact ⟨_, rfl, p, A10.dx, _, rfl, hh'.ob, Qj, _, rfl, p, A10, S', i, xs, rfl, hh', hi, hx, k⟩
  obtain ⟨F11, on11, nd11, fr11⟩ := hL11.on
  have o11 := o10.add s11 on11 nd11 fr11
  obtain ⟨A11, hh11⟩ := o11.house (i := 6) (C := C) rfl
  refine ⟨4, rfl, by decide, by decide, Qgw okW'.q.t4 (fun i xs H' Q' hi hx s k => ?_) fun tl H12 s12 hL12 => ?_⟩
  ·rw [show (0 : Int) + (i : Int) = (i : Int) from Int.zero_add _]
   have hh' := hh11.same s
   exact ⟨_, rfl, p, A11.dx, _, rfl, hh'.ob, Qj, _, rfl, p, A11, S', i, xs, rfl, hh', hi, hx, k⟩
  obtain ⟨F12, on12, nd12, fr12⟩ := hL12.on
  have o12 := o11.add s12 on12 nd12 fr12
  clear o11 o10 hh10 hh11 on11 nd11 fr11 on12 nd12 fr12 hL11 hL12 s11 s12
  obtain ⟨A12, hh12⟩ := o12.house (i := 7) (C := C) rfl
  have hS12 := o12.scr (i := 10) rfl
  have hl12 := o12.lst (i := 5) rfl
  have hcl := QjI okW'
  have few := okW'.few
  refine ⟨4, rfl, by decide, by decide, ?_⟩
  refine ZP (lo := 0) (n := 4) (fun i σ H' => ∃ v_k v_name v_first v_way, σ = [some (.ref a), some (.int many), some (.ref m), some (.ref p), some (.ref lg), some (.ref st), some (.ref ls), some (.ref wl), some (.ref tl), v_k, v_name, v_first, v_way] ∧ Same H12 H') ?_ ?_ ?_
  ·exact ⟨_, _, _, _, rfl, Same.refl _⟩
  ·rintro i σ H13 hi ⟨v1, v2, v3, v4, rfl, s13⟩
   refine ⟨_, rfl, _, rfl, _, rfl, _, _, rfl, rfl, a, ns, _, rfl, hS12.keep (Frz.of_same s13), _, rfl, lg, _, rfl, .inl (SqL.of (s13 _ _ hl12)), _, _, rfl, rfl, (by rw [List.length_map]; omega), ?_⟩
   obtain ⟨j, hj, ej⟩ : ∃ j : Nat, j < G.length ∧ drw ns (900 + (0 + (i : Int))) % (((G.map V.int).length : Nat) : Int) = (j : Int) := by
    rw [List.length_map]
    have h1 := Int.emod_nonneg (drw ns (900 + (0 + (i : Int)))) (show (G.length : Int) ≠ 0 by omega)
    have h2 := Int.emod_lt_of_pos (drw ns (900 + (0 + (i : Int)))) (show (0 : Int) < (G.length : Int) by omega)
    exact ⟨(drw ns (900 + (0 + (i : Int))) % (G.length : Int)).toNat, by omega, by omega⟩
   dsimp only
   rw [ej]
   have hnn := hoff _ (List.getElem_mem hj)
   have hjx : (G.map V.int)[j]? = some (V.int G[j]) := by rw [List.getElem?_map, List.getElem?_eq_getElem hj]; rfl
   generalize G[j] = nn at hnn hjx
   refine ⟨lg, _, _, _, rfl, rfl, SqL.of (s13 _ _ hl12), QZ hjx, ?_⟩
   have nl1 : (names S').length + 1 ≤ sizeLine := by
    have : (names S').length = S'.boxes.length := by simp [names]
    exact Nat.le_trans (show (names S').length + 1 ≤ 900 by omega) (by decide)
   have hh13 := hh12.same s13
   refine ⟨_, rfl, p, A12.dx, _, rfl, hh13.ob, Qj, p, A12, S', rfl, hh13, few, fun ln hln => ⟨_, rfl, zl, fun l5 hl5 => ?_⟩⟩
   refine ⟨ln, l5, _, _, rfl, rfl, Zk Qd hl5, Qd, by rw [List.length_map]; exact nl1, fun l6 hl6 => ?_⟩
   obtain ⟨f, hf, hfc⟩ : ∃ f : Int, ((names S').map V.int ++ [V.int nn])[0]? = some (V.int f) ∧ (f = nn ∨ ∃ (i : Nat) (b : Box), S'.boxes[i]? = some b ∧ f = b.name) := by
    unfold names
    cases hb : S'.boxes with
    | nil => exact ⟨nn, rfl, .inl rfl⟩
    | cons b r => exact ⟨b.name, rfl, .inr ⟨0, b, rfl, rfl⟩⟩
   refine ⟨l6, _, 0, _, rfl, rfl, SqL.of Qd, QZ (j := 0) hf, ?_⟩
   have s14 := s13.trans (((Same.new (o := .lst ((names S').map V.int)) hln).trans (Same.new (o := .lst [V.int nn]) hl5)).trans (Same.new (o := .lst ((names S').map V.int ++ [V.int nn])) hl6))
   generalize upd (upd (upd H13 ln _) l5 _) l6 _ = H14 at s14 ⊢
   have gg : Qja S' nn f := ⟨hnn.1, hnn.2, hfc, hsl'⟩
   refine ⟨22, rfl, by decide, by decide, ?_⟩
   refine ZP (lo := 0) (n := 22) (fun j σ H' => ∃ v_way, σ = [some (.ref a), some (.int many), some (.ref m), some (.ref p), some (.ref lg), some (.ref st), some (.ref ls), some (.ref wl), some (.ref tl), some (.int (0 + (i : Int))), some (.int nn), some (.int f), v_way] ∧ Same H12 H') ?_ ?_ ?_
   ·exact ⟨_, rfl, s14⟩
   ·rintro j σ H15 hj2 ⟨w1, rfl, s15⟩
    refine ⟨_, rfl, _, rfl, _, rfl, _, rfl, p, A12, S', _, nn, f, rfl, hh12.same s15, gg, hcl, by omega, by omega, by omega, fun H16 s16 => ⟨_, rfl, Qbg ?_⟩⟩
    refine ⟨_, rfl, _, rfl, _, rfl, _, rfl, p, A12, S', _, nn, f, rfl, hh12.same (s15.trans s16), gg, hcl, by omega, by omega, by omega, fun H17 s17 => ⟨_, rfl, Qbg ?_⟩⟩
    exact ⟨_, rfl, (s15.trans s16).trans s17⟩
   ·rintro σ H15 ⟨w1, rfl, s15⟩
    exact ⟨_, _, _, _, rfl, s15⟩
  ·rintro σ H13 ⟨v1, v2, v3, v4, rfl, s13⟩
   have o13 := o12.same s13
   have hst13 := o13.tup (i := 3) rfl
   obtain ⟨A13, hh13⟩ := o13.house (i := 7) (C := C) rfl
   obtain ⟨fl13, hk13, hr13, pf13⟩ := o13.rec (i := 4) rfl
   refine ⟨_, rfl, _, rfl, st, _, 0, .ref nk, rfl, rfl, SqT.of hst13, rfl, _, rfl, st, _, 1, .ref nr, rfl, rfl, SqT.of hst13, rfl, _, rfl, p, nk, nr, ls, A13, S', fl13, rfl, hh13, hk13, hr13, pf13, o13.ths (i := 2) rfl, few, fun H14 s14 => ⟨_, rfl, QaK ?_⟩⟩
   have o14 := o13.same s14
   obtain ⟨A14, hh14⟩ := o14.house (i := 7) (C := C) rfl
   obtain ⟨alq, hlq⟩ := o14.lls (i := 1) rfl
   obtain ⟨alt, hlt⟩ := o14.lls (i := 0) rfl
   exact ⟨_, rfl, _, rfl, _, rfl, p, wl, tl, A14, S', alq, alt, rfl, hh14, hlq, hlt, okW'.q.q4, okW'.q.t4, (Qi9 okW').1, (Qi9 okW').2, fun H' _ => q _⟩
end
end LW
/-! The names below are taken, so that the head makes no second form (a twin) of the whole heap at each of its cuts: those forms are not needed, and would be two thirds of the compiled file. -/
def PySem.W.Fast.tw3871391065548411107 : Unit := ()
def PySem.W.Fast.tw7663369026729982599 : Unit := ()
def PySem.W.Fast.tw11770387288864145941 : Unit := ()
def PySem.W.Fast.tw1173998103003736271 : Unit := ()
def PySem.W.Fast.tw37460179942767055 : Unit := ()
def PySem.W.Fast.tw9892300725788827514 : Unit := ()
def PySem.W.Fast.tw227000676924202846 : Unit := ()
def PySem.W.Fast.tw14665116729766905383 : Unit := ()
def PySem.W.Fast.tw3018516720655323497 : Unit := ()
def PySem.W.Fast.tw10514576325692709744 : Unit := ()
def PySem.W.Fast.tw4537544821929246079 : Unit := ()
def PySem.W.Fast.tw4992685206899964305 : Unit := ()
def PySem.W.Fast.tw11930847326451209906 : Unit := ()
def PySem.W.Fast.tw3679468679949163731 : Unit := ()
def PySem.W.Fast.tw3030805401550305249 : Unit := ()
def PySem.W.Fast.tw621951436548044444 : Unit := ()
def PySem.W.Fast.tw8505951013341176160 : Unit := ()
def PySem.W.Fast.tw8922371244568713911 : Unit := ()
def PySem.W.Fast.tw14811676613909761422 : Unit := ()
def PySem.W.Fast.tw855558238486220678 : Unit := ()
def PySem.W.Fast.tw4467015881237550785 : Unit := ()
def PySem.W.Fast.tw10439879963625258709 : Unit := ()
def PySem.W.Fast.tw2674798750260946633 : Unit := ()
def PySem.W.Fast.tw5077181139048268564 : Unit := ()
def PySem.W.Fast.tw3685028202123640820 : Unit := ()
def PySem.W.Fast.tw15629634582748030325 : Unit := ()
def PySem.W.Fast.tw2911308690411520954 : Unit := ()
def PySem.W.Fast.tw46635745597294807 : Unit := ()
def PySem.W.Fast.tw1424355331689468747 : Unit := ()
def PySem.W.Fast.tw889937256641484434 : Unit := ()
def PySem.W.Fast.tw13031424484566284246 : Unit := ()
def PySem.W.Fast.tw822523578461998772 : Unit := ()
def PySem.W.Fast.tw8730257093460077578 : Unit := ()
def PySem.W.Fast.tw15338158500607958281 : Unit := ()
def PySem.W.Fast.tw5341086374234231956 : Unit := ()
def PySem.W.Fast.tw9527882556517623764 : Unit := ()
def PySem.W.Fast.tw4267121815643024326 : Unit := ()
def PySem.W.Fast.tw9731142528915289596 : Unit := ()
def PySem.W.Fast.tw166613190379549707 : Unit := ()
def PySem.W.Fast.tw11645903405224520543 : Unit := ()
def PySem.W.Fast.tw5310900836626988295 : Unit := ()
def PySem.W.Fast.tw9642985064989298179 : Unit := ()
def PySem.W.Fast.tw17979548624643117886 : Unit := ()
def PySem.W.Fast.tw1462147672977141344 : Unit := ()
def PySem.W.Fast.tw1024976737263931054 : Unit := ()
def PySem.W.Fast.tw3773352394658717657 : Unit := ()
def PySem.W.Fast.tw1121634429402844534 : Unit := ()
def PySem.W.Fast.tw6900429329649824910 : Unit := ()
def PySem.W.Fast.tw17039992209043494570 : Unit := ()
def PySem.W.Fast.tw10736369590365055864 : Unit := ()
def PySem.W.Fast.tw352768386943379470 : Unit := ()
def PySem.W.Fast.tw8613023199055921145 : Unit := ()
def PySem.W.Fast.tw12948210566705653378 : Unit := ()
def PySem.W.Fast.tw12801105902944858826 : Unit := ()
def PySem.W.Fast.tw2571677046739779387 : Unit := ()
def PySem.W.Fast.tw5339665962111237665 : Unit := ()
def PySem.W.Fast.tw14362196301777586633 : Unit := ()
def PySem.W.Fast.tw14585184650112914658 : Unit := ()
def PySem.W.Fast.tw7774421421224428308 : Unit := ()
def PySem.W.Fast.tw1926901881951266653 : Unit := ()
def PySem.W.Fast.tw1860240038500150525 : Unit := ()
def PySem.W.Fast.tw10819485563828135476 : Unit := ()
def PySem.W.Fast.tw16441892246178594215 : Unit := ()
def PySem.W.Fast.tw11824094609853950048 : Unit := ()
def PySem.W.Fast.tw15435702766698565701 : Unit := ()
def PySem.W.Fast.tw14058343596854453193 : Unit := ()
def PySem.W.Fast.tw6265863002090399735 : Unit := ()
def PySem.W.Fast.tw13699002954360543867 : Unit := ()
def PySem.W.Fast.tw13654215499550871867 : Unit := ()
def PySem.W.Fast.tw6514599938754047175 : Unit := ()
def PySem.W.Fast.tw2507084121335474804 : Unit := ()
namespace LW
open PySem L2 PySem.W
def GD (K : Fg) (x : Str) (st : Stmt) : Prop := ∃ f fd, nsIn K mainGlobals x = some (some (.ref f)) ∧ Fun K x x st f fd
def MD (K : Fg) (C : Addr) (x q : Str) (st : Stmt) : Prop := ∃ f fd, findIn K (.ref C) x = some (some (.ref f)) ∧ isFn K (.ref f) = true ∧ Fun K x q st f fd
section
variable {K : Fg} {x q : Str} {st : Stmt} {f C : Addr} {oc : Value} {od an : Option Addr} {osl : Array (Option Value)} {kV doc pm cdv ct : Value}
theorem gd_mk (a : nsIn K mainGlobals x = some (some (.ref f))) (l : K.lookup f = some ⟨oc, od, .func (fnOf x x (QT st) (Qr st) (Qg st) .none kV doc pm an cdv ct), osl⟩) (c : codeIn K cdv x = true) (k : keepIn K (.ref f) = true) : GD K x st := ⟨f, _, a, QkV l c k⟩
theorem md_mk (a : findIn K (.ref C) x = some (some (.ref f))) (i : isFn K (.ref f) = true) (l : K.lookup f = some ⟨oc, od, .func (fnOf x q (QT st) (Qr st) (Qg st) .none kV doc pm an cdv ct), osl⟩) (c : codeIn K cdv q = true) (k : keepIn K (.ref f) = true) : MD K C x q st := ⟨f, _, a, i, QkV l c k⟩
def BO (x q : Str) (st : Stmt) (ps : List Str) : Prop := ∀ (kV doc pm : Value) (an : Option Addr) (cdv ct : Value) (us : List Value), us.length = ps.length → bindArgs (fnOf x q (QT st) (Qr st) (Qg st) .none kV doc pm an cdv ct) ⟨us, []⟩ = pure (ps.zip us)
variable {P : Program} {w : World} {mg : Str → Option Value} {base h : Heap} {k : Nat} {ps : List Str} {sp : Sp} {dss : List (List Value)}
theorem QmT {α : Type} {p : α → Prop} {x : α} (h : p x) : ∀ y ∈ [x], p y := fun y hy => by rw [List.mem_singleton.mp hy]; exact h
theorem GD.get (d : GD K x st) (X : K.In h) (G : h.Ns mainGlobals mg) (b : BO x x st ps) (ok : ∀ {f fd}, Fun K x x st f fd → FnOk P w K mg base CX0 k f fd ps sp) : DefOk P w K mg base k x ps sp [[]] := let ⟨f, fd, a, F⟩ := d; ⟨f, fd, mg_of X G a, F.kp, ok F, QmT (F.binds b)⟩
theorem MD.get (d : MD K C x q st) (b : BO x q st ps) (ok : ∀ {f fd}, Fun K x q st f fd → FnOk P w K mg base CX0 k f fd ps sp) : MethOk P w K mg base C k x ps sp [[]] := let ⟨f, fd, a, i, F⟩ := d; ⟨f, fd, ⟨a, i, F.kp⟩, ok F, QmT (F.binds b)⟩
theorem two1 {α : Type} {p : α → Prop} {x z : α} (h : p x) (h2 : p z) : ∀ y ∈ [x, z], p y := fun y hy => by rcases List.mem_cons.mp hy with e | e; (rw [e]; exact h); exact QmT h2 y e
theorem three1 {α : Type} {p : α → Prop} {x z t : α} (h : p x) (h2 : p z) (h3 : p t) : ∀ y ∈ [x, z, t], p y := fun y hy => by rcases List.mem_cons.mp hy with e | e; (rw [e]; exact h); exact two1 h2 h3 y e
def GDd (K : Fg) (x : Str) (st : Stmt) (ds : List Value) : Prop := ∃ f fd, nsIn K mainGlobals x = some (some (.ref f)) ∧ FunD K x x st f fd ds
def MDd (K : Fg) (C : Addr) (x q : Str) (st : Stmt) (ds : List Value) : Prop := ∃ f fd, findIn K (.ref C) x = some (some (.ref f)) ∧ isFn K (.ref f) = true ∧ FunD K x q st f fd ds
def BOd (x q : Str) (st : Stmt) (ds : List Value) (ps : List Str) (es : List Value) : Prop := ∀ (T : Addr) (kV doc pm : Value) (an : Option Addr) (cdv ct : Value) (us : List Value), (us ++ es).length = ps.length → ∃ k : Option (Array Value) → Sem (List (Str × Value)), bindArgs (fnOf x q (QT st) (Qr st) (Qg st) (.ref T) kV doc pm an cdv ct) ⟨us, []⟩ = seqItems? (.ref T) >>= k ∧ k (some ds.toArray) = pure (ps.zip (us ++ es))
variable {T : Addr} {n : Nat} {ds : List Value} {o1 : Value} {o2 : Option Addr} {o3 : Array (Option Value)}
theorem gdd_mk (a : nsIn K mainGlobals x = some (some (.ref f))) (l : K.lookup f = some ⟨oc, od, .func (fnOf x x (QT st) (Qr st) (Qg st) (.ref T) kV doc pm an cdv ct), osl⟩) (c : codeIn K cdv x = true) (k : keepIn K (.ref f) = true) (t : K.lookup T = some ⟨o1, o2, .seq (List.toArray ds) n, o3⟩) : GDd K x st ds := ⟨f, _, a, QkW l c k t rfl⟩
theorem mdd_mk (a : findIn K (.ref C) x = some (some (.ref f))) (i : isFn K (.ref f) = true) (l : K.lookup f = some ⟨oc, od, .func (fnOf x q (QT st) (Qr st) (Qg st) (.ref T) kV doc pm an cdv ct), osl⟩) (c : codeIn K cdv q = true) (k : keepIn K (.ref f) = true) (t : K.lookup T = some ⟨o1, o2, .seq (List.toArray ds) n, o3⟩) : MDd K C x q st ds := ⟨f, _, a, i, QkW l c k t rfl⟩
theorem GDd.get (d : GDd K x st ds) (X : K.In h) (G : h.Ns mainGlobals mg) (b : ∀ es ∈ dss, BOd x x st ds ps es) (ok : ∀ {f fd}, FunD K x x st f fd ds → FnOk P w K mg base CX0 k f fd ps sp) : DefOk P w K mg base k x ps sp dss := let ⟨f, fd, a, F⟩ := d; ⟨f, fd, mg_of X G a, F.kp, ok F, fun es he => F.binds (b es he)⟩
theorem MDd.get (d : MDd K C x q st ds) (b : ∀ es ∈ dss, BOd x q st ds ps es) (ok : ∀ {f fd}, FunD K x q st f fd ds → FnOk P w K mg base CX0 k f fd ps sp) : MethOk P w K mg base C k x ps sp dss := let ⟨f, fd, a, i, F⟩ := d; ⟨f, fd, ⟨a, i, F.kp⟩, ok F, fun es he => F.binds (b es he)⟩
theorem MDd.make (d : MDd K C "__init__" q st ds) (mk : makesIn K C = true) (kc : keepIn K (.ref C) = true) (b : ∀ es ∈ dss, BOd "__init__" q st ds ps es) (ok : ∀ {f fd}, FunD K "__init__" q st f fd ds → FnOk P w K mg base CX0 k f fd ps sp) : MakeOk P w K mg base C (k + 1) ps sp dss := let ⟨f, fd, a, i, F⟩ := d; ⟨f, fd, k, Nat.le_refl _, ⟨mk, a, i, kc⟩, ok F, fun es he => F.binds (b es he)⟩
theorem DefOk.up {j : Nat} (h : DefOk P w K mg base j x ps sp dss) (e : j ≤ k := by decide) : DefOk P w K mg base k x ps sp dss := h.mono e
theorem MethOk.up {j : Nat} (h : MethOk P w K mg base C j x ps sp dss) (e : j ≤ k := by decide) : MethOk P w K mg base C k x ps sp dss := h.mono e
theorem MakeOk.up {j : Nat} (h : MakeOk P w K mg base C j ps sp dss) (e : j ≤ k := by decide) : MakeOk P w K mg base C k ps sp dss := h.mono e
theorem MD.make (d : MD K C "__init__" q st) (mk : makesIn K C = true) (kc : keepIn K (.ref C) = true) (b : BO "__init__" q st ps) (ok : ∀ {f fd}, Fun K "__init__" q st f fd → FnOk P w K mg base CX0 k f fd ps sp) : MakeOk P w K mg base C (k + 1) ps sp [[]] := let ⟨f, fd, a, i, F⟩ := d; ⟨f, fd, k, Nat.le_refl _, ⟨mk, a, i, kc⟩, ok F, QmT (F.binds b)⟩
theorem GDd.getX (d : GDd K x st ds) (X : K.In h) (G : h.Ns mainGlobals mg) (b : ∀ es ∈ dss, BOd x x st ds ps es) (ok : ∀ {f fd}, FunD K x x st f fd ds → FnOk P w K mg base (CXF P w) k f fd ps sp) : DefX P w K mg base k x ps sp dss := let ⟨f, fd, a, F⟩ := d; ⟨f, fd, mg_of X G a, F.kp, ok F, fun es he => F.binds (b es he)⟩
theorem MDd.getX (d : MDd K C x q st ds) (b : ∀ es ∈ dss, BOd x q st ds ps es) (ok : ∀ {f fd}, FunD K x q st f fd ds → FnOk P w K mg base (CXF P w) k f fd ps sp) : MethX P w K mg base C k x ps sp dss := let ⟨f, fd, a, i, F⟩ := d; ⟨f, fd, ⟨a, i, F.kp⟩, ok F, fun es he => F.binds (b es he)⟩
theorem GD.getX (d : GD K x st) (X : K.In h) (G : h.Ns mainGlobals mg) (b : BO x x st ps) (ok : ∀ {f fd}, Fun K x x st f fd → FnOk P w K mg base (CXF P w) k f fd ps sp) : DefX P w K mg base k x ps sp [[]] := let ⟨f, fd, a, F⟩ := d; ⟨f, fd, mg_of X G a, F.kp, ok F, QmT (F.binds b)⟩
theorem MD.getX (d : MD K C x q st) (b : BO x q st ps) (ok : ∀ {f fd}, Fun K x q st f fd → FnOk P w K mg base (CXF P w) k f fd ps sp) : MethX P w K mg base C k x ps sp [[]] := let ⟨f, fd, a, i, F⟩ := d; ⟨f, fd, ⟨a, i, F.kp⟩, ok F, QmT (F.binds b)⟩
theorem DefX.up {j : Nat} (h : DefX P w K mg base j x ps sp dss) (e : j ≤ k := by decide) : DefX P w K mg base k x ps sp dss := h.mono e
theorem MethX.up {j : Nat} (h : MethX P w K mg base C j x ps sp dss) (e : j ≤ k := by decide) : MethX P w K mg base C k x ps sp dss := h.mono e
theorem bd1 {x q : Str} {st : Stmt} {ps : List Str} {es ds : List Value} (h : ∀ (T : Addr) (kV doc pm : Value) (an : Option Addr) (cdv ct a0 : Value), ∃ k, bindArgs (fnOf x q (QT st) (Qr st) (Qg st) (.ref T) kV doc pm an cdv ct) ⟨[a0], []⟩ = seqItems? (.ref T) >>= k ∧ k (some ds.toArray) = pure (ps.zip ([a0] ++ es)) := by intros; exact ⟨_, rfl, rfl⟩) (e : es.length + 1 = ps.length := by rfl) : BOd x q st ds ps es := fun T kV doc pm an cdv ct us hl => match us, (show us.length = 1 by rw [List.length_append] at hl; omega) with | [a0], _ => h T kV doc pm an cdv ct a0
theorem bd2 {x q : Str} {st : Stmt} {ps : List Str} {es ds : List Value} (h : ∀ (T : Addr) (kV doc pm : Value) (an : Option Addr) (cdv ct a0 a1 : Value), ∃ k, bindArgs (fnOf x q (QT st) (Qr st) (Qg st) (.ref T) kV doc pm an cdv ct) ⟨[a0, a1], []⟩ = seqItems? (.ref T) >>= k ∧ k (some ds.toArray) = pure (ps.zip ([a0, a1] ++ es)) := by intros; exact ⟨_, rfl, rfl⟩) (e : es.length + 2 = ps.length := by rfl) : BOd x q st ds ps es := fun T kV doc pm an cdv ct us hl => match us, (show us.length = 2 by rw [List.length_append] at hl; omega) with | [a0, a1], _ => h T kV doc pm an cdv ct a0 a1
theorem bd3 {x q : Str} {st : Stmt} {ps : List Str} {es ds : List Value} (h : ∀ (T : Addr) (kV doc pm : Value) (an : Option Addr) (cdv ct a0 a1 a2 : Value), ∃ k, bindArgs (fnOf x q (QT st) (Qr st) (Qg st) (.ref T) kV doc pm an cdv ct) ⟨[a0, a1, a2], []⟩ = seqItems? (.ref T) >>= k ∧ k (some ds.toArray) = pure (ps.zip ([a0, a1, a2] ++ es)) := by intros; exact ⟨_, rfl, rfl⟩) (e : es.length + 3 = ps.length := by rfl) : BOd x q st ds ps es := fun T kV doc pm an cdv ct us hl => match us, (show us.length = 3 by rw [List.length_append] at hl; omega) with | [a0, a1, a2], _ => h T kV doc pm an cdv ct a0 a1 a2
theorem bd4 {x q : Str} {st : Stmt} {ps : List Str} {es ds : List Value} (h : ∀ (T : Addr) (kV doc pm : Value) (an : Option Addr) (cdv ct a0 a1 a2 a3 : Value), ∃ k, bindArgs (fnOf x q (QT st) (Qr st) (Qg st) (.ref T) kV doc pm an cdv ct) ⟨[a0, a1, a2, a3], []⟩ = seqItems? (.ref T) >>= k ∧ k (some ds.toArray) = pure (ps.zip ([a0, a1, a2, a3] ++ es)) := by intros; exact ⟨_, rfl, rfl⟩) (e : es.length + 4 = ps.length := by rfl) : BOd x q st ds ps es := fun T kV doc pm an cdv ct us hl => match us, (show us.length = 4 by rw [List.length_append] at hl; omega) with | [a0, a1, a2, a3], _ => h T kV doc pm an cdv ct a0 a1 a2 a3
theorem bo1 {x q : Str} {st : Stmt} {p0 : Str} (h : ∀ (kV doc pm : Value) (an : Option Addr) (cdv ct a0 : Value), bindArgs (fnOf x q (QT st) (Qr st) (Qg st) .none kV doc pm an cdv ct) ⟨[a0], []⟩ = pure [(p0, a0)] := by intros; rfl) : BO x q st [p0] := fun kV doc pm an cdv ct us hl => match us, hl with | [a0], _ => h kV doc pm an cdv ct a0
theorem bo2 {x q : Str} {st : Stmt} {p0 p1 : Str} (h : ∀ (kV doc pm : Value) (an : Option Addr) (cdv ct a0 a1 : Value), bindArgs (fnOf x q (QT st) (Qr st) (Qg st) .none kV doc pm an cdv ct) ⟨[a0, a1], []⟩ = pure [(p0, a0), (p1, a1)] := by intros; rfl) : BO x q st [p0, p1] := fun kV doc pm an cdv ct us hl => match us, hl with | [a0, a1], _ => h kV doc pm an cdv ct a0 a1
theorem bo3 {x q : Str} {st : Stmt} {p0 p1 p2 : Str} (h : ∀ (kV doc pm : Value) (an : Option Addr) (cdv ct a0 a1 a2 : Value), bindArgs (fnOf x q (QT st) (Qr st) (Qg st) .none kV doc pm an cdv ct) ⟨[a0, a1, a2], []⟩ = pure [(p0, a0), (p1, a1), (p2, a2)] := by intros; rfl) : BO x q st [p0, p1, p2] := fun kV doc pm an cdv ct us hl => match us, hl with | [a0, a1, a2], _ => h kV doc pm an cdv ct a0 a1 a2
theorem bo4 {x q : Str} {st : Stmt} {p0 p1 p2 p3 : Str} (h : ∀ (kV doc pm : Value) (an : Option Addr) (cdv ct a0 a1 a2 a3 : Value), bindArgs (fnOf x q (QT st) (Qr st) (Qg st) .none kV doc pm an cdv ct) ⟨[a0, a1, a2, a3], []⟩ = pure [(p0, a0), (p1, a1), (p2, a2), (p3, a3)] := by intros; rfl) : BO x q st [p0, p1, p2, p3] := fun kV doc pm an cdv ct us hl => match us, hl with | [a0, a1, a2, a3], _ => h kV doc pm an cdv ct a0 a1 a2 a3
end
theorem all_mk {l : OpenLaw} {w : World} {K : Fg} {h : Heap} {mg : Str → Option Value} {fa CHouse CSearch x_75 C_8 C_0 C_1 C_2 C_3 C_4 C_5 C_6 C_7 aF : Addr} (X : K.In h) (G : h.Ns mainGlobals mg) (hfa : mg "law" = some (.ref fa))
    {od_75 an_75 : Option Addr} {sl_75 : Array (Option Value)} {oc_75 kV_75 dc_75 pm_75 cd_75 ct_75 : Value} {t_34_0 t_31_0 t_31_1 t_64_0 t_68_0 tg tw1 tw2 tw3 tw4 : Tok} {ep0 : Nat}
    {hs1 hs2 : Int}
    (aCHouse : nsIn K mainGlobals "House" = some (some (.ref CHouse)))
    (aCSearch : nsIn K mainGlobals "Search" = some (some (.ref CSearch)))
    (g_28 : GD K "_law_cell_at" Qbb)
    (g_61 : GD K "_law_many" Qct)
    (g_62 : GD K "_law_draw" Qcv)
    (g_40 : GD K "_law_number" Qbw)
    (g_49 : GD K "_law_thing" QbV)
    (g_51 : GD K "_law_graph" Qaa)
    (m_34 : MDd K CHouse "__init__" "House.__init__" Q9 [.int 4 t_34_0])
    (m_6 : MD K CHouse "check_slot" "House.check_slot" Zc)
    (m_14 : MD K CHouse "has_room" "House.has_room" Z7)
    (m_9 : MDd K CHouse "make_room" "House.make_room" ZU [.none])
    (g_56 : GD K "box_name" Qcw)
    (g_46 : GD K "box_thing" Qb1)
    (g_63 : GD K "renamed" QbS)
    (m_19 : MD K CHouse "build" "House.build" QW)
    (m_31 : MDd K CHouse "make" "House.make" Qbt [.int 0 t_31_0, .int 0 t_31_1])
    (m_11 : MD K CHouse "check_box" "House.check_box" Zh)
    (m_4 : MD K CHouse "check_thing" "House.check_thing" Q4)
    (m_5 : MD K CHouse "check_field" "House.check_field" Q6)
    (m_54 : MD K CHouse "put" "House.put" QaX)
    (m_33 : MD K CHouse "hold" "House.hold" Qav)
    (g_52 : GD K "_law_house" QbY)
    (g_55 : GD K "_law_slots" QbW)
    (m_1 : MD K CHouse "check_guard" "House.check_guard" Q5)
    (m_26 : MD K CHouse "watch" "House.watch" Z6)
    (g_17 : GD K "_law_watched" Qa9)
    (g_47 : GD K "_law_waits" QbU)
    (m_25 : MD K CSearch "__init__" "Search.__init__" Qa4)
    (m_13 : MD K CSearch "add_row" "Search.add_row" Z5)
    (m_7 : MD K CSearch "add_slots" "Search.add_slots" ZL)
    (m_10 : MD K CSearch "add_told" "Search.add_told" ZT)
    (m_18 : MD K CHouse "field" "House.field" Z8)
    (m_8 : MD K CSearch "add_value" "Search.add_value" ZK)
    (m_32 : MD K CHouse "kind" "House.kind" Qau)
    (m_37 : MD K CHouse "size" "House.size" Qat)
    (m_2 : MD K CSearch "add_fields" "Search.add_fields" Zz)
    (m_0 : MD K CSearch "follow_pair" "Search.follow_pair" Zr)
    (m_15 : MD K CSearch "follow" "Search.follow" Qal)
    (m_3 : MD K CSearch "follow_all" "Search.follow_all" Zy)
    (g_69 : GDd K "paper" Qfk [.none])
    (g_66 : GDd K "living" QbH [.none])
    (m_20 : MD K CHouse "names" "House.names" Qa6)
    (g_12 : GD K "leads_to_unheld" ZV)
    (g_35 : GD K "break_weak" Za)
    (m_16 : MD K CHouse "waiting" "House.waiting" Qam)
    (m_38 : MD K CHouse "tell" "House.tell" Qbr)
    (g_22 : GD K "tell_unheld" Qa8)
    (g_24 : GD K "break_pairs" QX)
    (m_41 : MD K CHouse "drop" "House.drop" Qbv)
    (g_23 : GD K "drop_unheld" ZA)
    (g_73 : GDd K "sweep" QdF [.none])
    (g_57 : GD K "_law_read" QaC)
    (m_39 : MD K CHouse "held" "House.held" Qbu)
    (m_27 : MD K CHouse "words" "House.words" Qa5)
    (m_36 : MD K CHouse "swap" "House.swap" Qbs)
    (m_21 : MD K CHouse "leave" "House.leave" Qa7)
    (g_44 : GD K "_law_early" QbZ)
    (g_74 : GD K "walk" QeX)
    (g_53 : GD K "things_in" Z9)
    (g_59 : GD K "boxes_in" ZB)
    (g_67 : GD K "row_of" QbG)
    (g_42 : GD K "walk_draft" QU)
    (g_72 : GD K "alike" Qfm)
    (g_71 : GD K "apart" Qfl)
    (g_64 : GDd K "doubled" Qdj [.int 0 t_64_0])
    (g_30 : GD K "fold_draft" Qby)
    (g_68 : GDd K "folded" Qec [.int 0 t_68_0])
    (g_70 : GD K "shown" Qcr)
    (g_58 : GD K "_law_late" Qcu)
    (g_50 : GD K "_law_alone" Qb0)
    (g_29 : GD K "_law_refused" Qba)
    (g_45 : GD K "_law_whole" QbT)
    (g_48 : GD K "_law_names" QbX)
    (g_43 : GD K "_law_guards" Qbx)
    (g_60 : GD K "_law_same" Qcs)
    (g_65 : GD K "_law_as" Qeb)
    (a_75 : nsIn K mainGlobals "law" = some (some (.ref x_75)))
    (l_75 : K.lookup x_75 = some ⟨oc_75, od_75, .func (fnOf "law" "law" (QT ZW) (Qr ZW) (Qg ZW) .none kV_75 dc_75 pm_75 an_75 cd_75 ct_75), sl_75⟩)
    (c_75 : codeIn K cd_75 "law" = true)
    (k_75 : keepIn K (.ref x_75) = true)
    (pgHouse : plainGet K CHouse Str.empty = true)
    (hdHouse : hasDictIn K CHouse = true)
    (poHouse : plainOver K CHouse = true)
    (saHouse : findIn K (.ref CHouse) "__setattr__" = some (some (.builtin "object.__setattr__")))
    (mkHouse : makesIn K CHouse = true)
    (kcHouse : keepIn K (.ref CHouse) = true)
    (n_House_room : findIn K (.ref CHouse) "room" = some none)
    (n_House_slots : findIn K (.ref CHouse) "slots" = some none)
    (n_House_last_name : findIn K (.ref CHouse) "last_name" = some none)
    (n_House_kinds : findIn K (.ref CHouse) "kinds" = some none)
    (n_House_fields : findIn K (.ref CHouse) "fields" = some none)
    (n_House_queues : findIn K (.ref CHouse) "queues" = some none)
    (n_House_told : findIn K (.ref CHouse) "told" = some none)
    (pgSearch : plainGet K CSearch Str.empty = true)
    (hdSearch : hasDictIn K CSearch = true)
    (poSearch : plainOver K CSearch = true)
    (saSearch : findIn K (.ref CSearch) "__setattr__" = some (some (.builtin "object.__setattr__")))
    (mkSearch : makesIn K CSearch = true)
    (kcSearch : keepIn K (.ref CSearch) = true)
    (n_Search_house : findIn K (.ref CSearch) "house" = some none)
    (n_Search_rows : findIn K (.ref CSearch) "rows" = some none)
    (n_Search_listed : findIn K (.ref CSearch) "listed" = some none)
    (n_Search_locked : findIn K (.ref CSearch) "locked" = some none)
    (z_len : nsIn K mainGlobals "len" = some none)
    (z_sorted : nsIn K mainGlobals "sorted" = some none)
    (z_range : nsIn K mainGlobals "range" = some none)
    (z_list : nsIn K mainGlobals "list" = some none)
    (z_isinstance : nsIn K mainGlobals "isinstance" = some none)
    (z_int : nsIn K mainGlobals "int" = some none)
    (z_bool : nsIn K mainGlobals "bool" = some none)
    (z_tuple : nsIn K mainGlobals "tuple" = some none)
    (z_str : nsIn K mainGlobals "str" = some none)
    (z_enumerate : nsIn K mainGlobals "enumerate" = some none)
    (z_zip : nsIn K mainGlobals "zip" = some none)
    (z_dict : nsIn K mainGlobals "dict" = some none)
    (g_8 : nsIn K mainGlobals "HouseError" = some (some (.ref C_8)))
    (g_0 : nsIn K mainGlobals "NoSlot" = some (some (.ref C_0)))
    (g_1 : nsIn K mainGlobals "NoGuard" = some (some (.ref C_1)))
    (g_2 : nsIn K mainGlobals "NoBox" = some (some (.ref C_2)))
    (g_3 : nsIn K mainGlobals "NoField" = some (some (.ref C_3)))
    (g_4 : nsIn K mainGlobals "NotThere" = some (some (.ref C_4)))
    (g_5 : nsIn K mainGlobals "AlreadyThere" = some (some (.ref C_5)))
    (g_6 : nsIn K mainGlobals "Crowded" = some (some (.ref C_6)))
    (g_7 : nsIn K mainGlobals "NoNote" = some (some (.ref C_7)))
    (z_ValueError : nsIn K mainGlobals "ValueError" = some none)
    (xg : nsIn K mainGlobals "GUARDS" = some (some (.int 4 tg)))
    (xf : nsIn K mainGlobals "FIXED_SIZES" = some (some (.ref aF)))
    (lf : K.lookup aF = some ⟨.type "dict", none, .dict #[⟨hs1, .str "weak" tw1, .int 1 tw2⟩, ⟨hs2, .str "pair" tw3, .int 2 tw4⟩] ep0, #[]⟩)
    (h_1 : hs1 = hashStr w "weak")
    (h_2 : hs2 = hashStr w "pair")
    (h_3 : (aF == sysModules) = false)
    (Z : XC K C_8 [C_0, C_1, C_2, C_3, C_4, C_5, C_6, C_7])
    : ∃ fd : FuncData, (∀ (s : Shared) (v : Value), BindsTo s fd ⟨[v], []⟩ [("script", v)]) ∧ ∀ base : Heap, K.In base → base.Ns mainGlobals mg → FnOk l.prog w K mg base CX0 10 fa fd ["script"] (Qlr K) := by
  have e := hfa.symm.trans (mg_of X G a_75)
  cases e
  have F_75 := QkV (st := ZW) l_75 c_75 k_75
  have HT : HTxt K mg CHouse := ⟨⟨pgHouse, hdHouse, poHouse, saHouse⟩, n_House_room, n_House_slots, n_House_last_name, n_House_kinds, n_House_fields, n_House_queues, n_House_told, mg_of X G aCHouse, mg_none_of X G z_len, mg_none_of X G z_sorted, mg_none_of X G z_range, mg_none_of X G z_list, mg_none_of X G z_isinstance, ⟨_, mg_of X G xg⟩⟩
  have T : TX K mg CHouse := { HT with g_int := mg_none_of X G z_int, g_bool := mg_none_of X G z_bool, g_tuple := mg_none_of X G z_tuple, g_str := mg_none_of X G z_str, g_enumerate := mg_none_of X G z_enumerate, s_ib := (by rfl), s_it := (by rfl) }
  have TS : TSx K mg CSearch := ⟨⟨pgSearch, hdSearch, poSearch, saSearch⟩, n_Search_house, n_Search_rows, n_Search_listed, n_Search_locked, mg_of X G aCSearch⟩
  refine ⟨fnOf "law" "law" (QT ZW) (Qr ZW) (Qg ZW) .none kV_75 dc_75 pm_75 an_75 cd_75 ct_75, fun s v => .of_eq rfl, fun base _ _ => ?_⟩
  have KD : QlY l.prog w K aF QlS := kdict2 lf h_1 h_2 (by decide +kernel) h_3
  have D_law_cell_at : DefOk l.prog w K mg base 1 "_law_cell_at" _ _ [[]] := g_28.get X G bo2 fun F => QeS (n := 0) F T 
  have D_law_many : DefOk l.prog w K mg base 2 "_law_many" _ _ [[]] := g_61.get X G bo1 fun F => QgS (n := 1) F T D_law_cell_at.up
  have D_law_draw : DefOk l.prog w K mg base 2 "_law_draw" _ _ [[]] := g_62.get X G bo2 fun F => QgT (n := 1) F T D_law_cell_at.up
  have D_law_number : DefOk l.prog w K mg base 3 "_law_number" _ _ [[]] := g_40.get X G bo2 fun F => Qfz (n := 2) F T D_law_draw.up D_law_cell_at.up
  have D_law_thing : DefOk l.prog w K mg base 4 "_law_thing" _ _ [[]] := g_49.get X G bo3 fun F => Qf6 (n := 3) F T D_law_draw.up D_law_number.up
  have D_law_graph : DefOk l.prog w K mg base 5 "_law_graph" _ _ [[]] := g_51.get X G bo2 fun F => Qga (n := 4) F T D_law_draw.up D_law_thing.up
  have D_House : MakeOk l.prog w K mg base CHouse 2 _ _ [[], [.int 4 t_34_0]] := m_34.make mkHouse kcHouse (two1 bd3 bd2) fun F => Qfu (n := 0) F T 
  have M_check_slot : MethOk l.prog w K mg base CHouse 1 "check_slot" _ _ [[]] := m_6.get bo2 fun F => QaF (n := 0) F T 
  have M_has_room : MethOk l.prog w K mg base CHouse 1 "has_room" _ _ [[]] := m_14.get bo2 fun F => Qdo (n := 0) F T 
  have M_make_room : MethOk l.prog w K mg base CHouse 2 "make_room" _ _ [[], [.none]] := m_9.get (two1 bd3 bd2) fun F => Qc4 (n := 1) F T M_has_room.up
  have D_box_name : DefOk l.prog w K mg base 1 "box_name" _ _ [[]] := g_56.get X G bo1 fun F => QgV (n := 0) F T 
  have D_box_thing : DefOk l.prog w K mg base 1 "box_thing" _ _ [[]] := g_46.get X G bo1 fun F => Qge (n := 0) F T 
  have D_renamed : DefOk l.prog w K mg base 2 "renamed" _ _ [[]] := g_63.get X G bo2 fun F => QhB (n := 1) F T D_box_name.up D_box_thing.up
  have M_build : MethOk l.prog w K mg base CHouse 3 "build" _ _ [[]] := m_19.get bo3 fun F => QeN (n := 2) F T (mg_none_of X G z_zip) M_has_room.up D_renamed.up D_box_thing.up
  have M_make : MethOk l.prog w K mg base CHouse 4 "make" _ _ [[], [.int 0 t_31_0, .int 0 t_31_1], [.int 0 t_31_1]] := m_31.get (three1 bd4 bd2 bd3) fun F => Qfs (n := 3) F T (mg_of X G xf) KD M_check_slot.up M_make_room.up M_build.up
  have M_check_box : MethOk l.prog w K mg base CHouse 1 "check_box" _ _ [[]] := m_11.get bo2 fun F => QaV (n := 0) F T 
  have M_check_thing : MethOk l.prog w K mg base CHouse 2 "check_thing" _ _ [[]] := m_4.get bo2 fun F => Qai (n := 1) F T D_box_name.up M_check_box.up
  have M_check_field : MethOk l.prog w K mg base CHouse 1 "check_field" _ _ [[]] := m_5.get bo3 fun F => Qak (n := 0) F T 
  have M_put : MethOk l.prog w K mg base CHouse 3 "put" _ _ [[]] := m_54.get bo4 fun F => Qf1 (n := 2) F T M_check_box.up M_check_thing.up M_check_field.up
  have M_hold : MethOk l.prog w K mg base CHouse 3 "hold" _ _ [[]] := m_33.get bo3 fun F => Qfv (n := 2) F T M_check_slot.up M_check_thing.up
  have D_law_house : DefOk l.prog w K mg base 5 "_law_house" _ _ [[]] := g_52.get X G bo4 fun F => Qf9 (n := 4) F T D_House.up M_make.up M_put.up M_hold.up
  have D_law_slots : DefOk l.prog w K mg base 3 "_law_slots" _ _ [[]] := g_55.get X G bo3 fun F => Qf7 (n := 2) F T D_law_draw.up
  have M_check_guard : MethOk l.prog w K mg base CHouse 1 "check_guard" _ _ [[]] := m_1.get bo2 fun F => Qaj (n := 0) F T 
  have M_watch : MethOk l.prog w K mg base CHouse 2 "watch" _ _ [[]] := m_26.get bo3 fun F => QeK (n := 1) F T M_check_guard.up M_check_box.up
  have D_law_watched : DefOk l.prog w K mg base 3 "_law_watched" _ _ [[]] := g_17.get X G bo2 fun F => QeP (n := 2) F T M_watch.up
  have D_law_waits : DefOk l.prog w K mg base 3 "_law_waits" _ _ [[]] := g_47.get X G bo2 fun F => Qf5 (n := 2) F T D_law_draw.up
  have D_Search : MakeOk l.prog w K mg base CSearch 2 _ _ [[]] := m_25.make mkSearch kcSearch bo2 fun F => QeI (n := 0) F T TS 
  have M_add_row : MethOk l.prog w K mg base CSearch 1 "add_row" _ _ [[]] := m_13.get bo2 fun F => Qdl (n := 0) F T TS 
  have M_add_slots : MethOk l.prog w K mg base CSearch 2 "add_slots" _ _ [[]] := m_7.get bo1 fun F => QcE (n := 1) F T TS D_box_name.up M_add_row.up
  have M_add_told : MethOk l.prog w K mg base CSearch 2 "add_told" _ _ [[]] := m_10.get bo1 fun F => Qc3 (n := 1) F T TS M_add_row.up
  have M_field : MethOk l.prog w K mg base CHouse 2 "field" _ _ [[]] := m_18.get bo3 fun F => QeM (n := 1) F T M_check_box.up M_check_field.up
  have M_add_value : MethOk l.prog w K mg base CSearch 3 "add_value" _ _ [[]] := m_8.get bo2 fun F => QcD (n := 2) F T TS D_box_name.up M_field.up M_add_row.up
  have M_kind : MethOk l.prog w K mg base CHouse 2 "kind" _ _ [[]] := m_32.get bo2 fun F => Qft (n := 1) F T M_check_box.up
  have M_size : MethOk l.prog w K mg base CHouse 2 "size" _ _ [[]] := m_37.get bo2 fun F => Qfr (n := 1) F T M_check_box.up
  have M_add_fields : MethOk l.prog w K mg base CSearch 3 "add_fields" _ _ [[]] := m_2.get bo2 fun F => Qcg (n := 2) F T TS M_size.up D_box_name.up M_field.up M_add_row.up
  have M_follow_pair : MethOk l.prog w K mg base CSearch 4 "follow_pair" _ _ [[]] := m_0.get bo2 fun F => Qb2 (n := 3) F T TS D_box_name.up M_field.up M_add_value.up
  have M_follow : MethOk l.prog w K mg base CSearch 5 "follow" _ _ [[]] := m_15.get bo2 fun F => QdM (n := 4) F T TS M_add_value.up M_kind.up M_add_fields.up M_follow_pair.up
  have M_follow_all : MethOk l.prog w K mg base CSearch 6 "follow_all" _ _ [[]] := m_3.get bo1 fun F => Qcf (n := 5) F T TS M_follow.up
  have D_paper : DefOk l.prog w K mg base 7 "paper" _ _ [[], [.none]] := g_69.get X G (two1 bd2 bd1) fun F => Qjp (n := 6) F T TS D_Search.up M_add_slots.up M_add_told.up M_add_row.up M_follow_all.up
  have D_living : DefOk l.prog w K mg base 8 "living" _ _ [[], [.none]] := g_66.get X G (two1 bd2 bd1) fun F => Qik (n := 7) F T D_paper.up
  have M_names : MethOk l.prog w K mg base CHouse 1 "names" _ _ [[]] := m_20.get bo1 fun F => QeL (n := 0) F T 
  have D_leads_to_unheld : DefOk l.prog w K mg base 3 "leads_to_unheld" _ _ [[]] := g_12.get X G bo3 fun F => Qc5 (n := 2) F T D_box_name.up M_field.up
  have D_break_weak : DefOk l.prog w K mg base 4 "break_weak" _ _ [[]] := g_35.get X G bo2 fun F => QfC (n := 3) F T M_names.up M_kind.up D_leads_to_unheld.up M_put.up
  have M_waiting : MethOk l.prog w K mg base CHouse 2 "waiting" _ _ [[]] := m_16.get bo2 fun F => QdN (n := 1) F T M_check_guard.up
  have M_tell : MethOk l.prog w K mg base CHouse 1 "tell" _ _ [[]] := m_38.get bo3 fun F => Qfq (n := 0) F T 
  have D_tell_unheld : DefOk l.prog w K mg base 3 "tell_unheld" _ _ [[]] := g_22.get X G bo2 fun F => QeO (n := 2) F T M_waiting.up M_tell.up
  have D_break_pairs : DefOk l.prog w K mg base 4 "break_pairs" _ _ [[]] := g_24.get X G bo2 fun F => QeU (n := 3) F T M_kind.up D_leads_to_unheld.up M_put.up
  have M_drop : MethOk l.prog w K mg base CHouse 1 "drop" _ _ [[]] := m_41.get bo2 fun F => Qfx (n := 0) F T 
  have D_drop_unheld : DefOk l.prog w K mg base 2 "drop_unheld" _ _ [[]] := g_23.get X G bo2 fun F => QeT (n := 1) F T M_names.up M_drop.up
  have D_sweep : DefOk l.prog w K mg base 9 "sweep" _ _ [[], [.none]] := g_73.get X G (two1 bd2 bd1) fun F => Qjo (n := 8) F T M_check_box.up D_living.up D_break_weak.up D_tell_unheld.up D_break_pairs.up D_drop_unheld.up
  have D_law_read : DefOk l.prog w K mg base 3 "_law_read" _ _ [[]] := g_57.get X G bo1 fun F => QgR (n := 2) F T M_names.up M_kind.up M_size.up M_field.up
  have M_held : MethOk l.prog w K mg base CHouse 2 "held" _ _ [[]] := m_39.get bo2 fun F => Qfw (n := 1) F T M_check_slot.up
  have M_words : MethOk l.prog w K mg base CHouse 2 "words" _ _ [[]] := m_27.get bo2 fun F => QeJ (n := 1) F T M_check_guard.up
  have MX_check_box : MethX l.prog w K mg base CHouse 1 "check_box" _ _ [[]] := m_11.getX bo2 fun F => FnOk.either (FnOk.lift (QaV (n := 0) F T )) (Qb3 (n := 0) F T (mg_of X G g_2) (Z.exc _ (by simp)) )
  have MX_kind : MethX l.prog w K mg base CHouse 2 "kind" _ _ [[]] := m_32.getX bo2 fun F => QdQ (n := 1) F T MX_check_box.up
  have MX_size : MethX l.prog w K mg base CHouse 2 "size" _ _ [[]] := m_37.getX bo2 fun F => QdP (n := 1) F T MX_check_box.up
  have MX_check_field : MethX l.prog w K mg base CHouse 1 "check_field" _ _ [[]] := m_5.getX bo3 fun F => FnOk.either (FnOk.lift (Qak (n := 0) F T )) (QbC (n := 0) F T (mg_of X G g_3) (Z.exc _ (by simp)) )
  have MX_field : MethX l.prog w K mg base CHouse 2 "field" _ _ [[]] := m_18.getX bo3 fun F => Qdp (n := 1) F T MX_check_box.up MX_check_field.up
  have MX_check_thing : MethX l.prog w K mg base CHouse 2 "check_thing" _ _ [[]] := m_4.getX bo2 fun F => FnOk.either (FnOk.lift (Qai (n := 1) F T D_box_name.up M_check_box.up)) (QbA (n := 1) F T D_box_name.up MX_check_box.up)
  have MX_put : MethX l.prog w K mg base CHouse 3 "put" _ _ [[]] := m_54.getX bo4 fun F => Qef (n := 2) F T MX_check_box.up MX_check_thing.up MX_check_field.up
  have MX_check_slot : MethX l.prog w K mg base CHouse 1 "check_slot" _ _ [[]] := m_6.getX bo2 fun F => FnOk.either (FnOk.lift (QaF (n := 0) F T )) (QbI (n := 0) F T (mg_of X G g_0) (Z.exc _ (by simp)) )
  have MX_hold : MethX l.prog w K mg base CHouse 3 "hold" _ _ [[]] := m_33.getX bo3 fun F => QdR (n := 2) F T MX_check_slot.up MX_check_thing.up
  have MX_swap : MethX l.prog w K mg base CHouse 2 "swap" _ _ [[]] := m_36.getX bo3 fun F => QdO (n := 1) F T MX_check_box.up
  have MX_check_guard : MethX l.prog w K mg base CHouse 1 "check_guard" _ _ [[]] := m_1.getX bo2 fun F => FnOk.either (FnOk.lift (Qaj (n := 0) F T )) (QbB (n := 0) F T (mg_of X G g_1) (Z.exc _ (by simp)) )
  have MX_watch : MethX l.prog w K mg base CHouse 2 "watch" _ _ [[]] := m_26.getX bo3 fun F => Qdm (n := 1) F T MX_check_guard.up MX_check_box.up
  have MX_leave : MethX l.prog w K mg base CHouse 2 "leave" _ _ [[]] := m_21.getX bo3 fun F => Qdn (n := 1) F T MX_check_guard.up MX_check_box.up
  have DX_sweep : DefX l.prog w K mg base 2 "sweep" _ _ [[]] := g_73.getX X G (QmT bd2) fun F => QgO (n := 1) F T MX_check_box.up
  have DX_law_early : DefX l.prog w K mg base 4 "_law_early" _ _ [[]] := g_44.getX X G bo4 fun F => Qgb (n := 3) F T MX_kind.up MX_size.up MX_field.up MX_put.up MX_hold.up MX_swap.up MX_watch.up MX_leave.up DX_sweep.up
  have DX_walk : DefX l.prog w K mg base 2 "walk" _ _ [[]] := g_74.getX X G bo2 fun F => QhA (n := 1) F T MX_check_box.up
  have D_things_in : DefOk l.prog w K mg base 3 "things_in" _ _ [[]] := g_53.get X G bo2 fun F => Qf2 (n := 2) F T M_size.up M_field.up
  have D_boxes_in : DefOk l.prog w K mg base 4 "boxes_in" _ _ [[]] := g_59.get X G bo2 fun F => QgU (n := 3) F T D_things_in.up D_box_name.up
  have D_walk : DefOk l.prog w K mg base 5 "walk" _ _ [[]] := g_74.get X G bo2 fun F => Qkz (n := 4) F T M_check_box.up D_boxes_in.up
  have D_renamed_d : DefOk l.prog w K mg base 2 "renamed" _ _ [[]] := g_63.get X G bo2 fun F => Qf3 (n := 1) F T D_box_name.up D_box_thing.up
  have D_row_of : DefOk l.prog w K mg base 4 "row_of" _ _ [[]] := g_67.get X G bo3 fun F => Qij (n := 3) F T D_things_in.up D_renamed_d.up M_kind.up
  have DX_walk_draft : DefX l.prog w K mg base 6 "walk_draft" _ _ [[]] := g_42.getX X G bo2 fun F => FnOk.either (FnOk.lift (Qfy (n := 5) F T (mg_none_of X G z_dict) D_walk.up D_row_of.up)) (QdS (n := 5) F T DX_walk.up)
  have DX_alike : DefX l.prog w K mg base 7 "alike" _ _ [[]] := g_72.getX X G bo3 fun F => QgX (n := 6) F T DX_walk_draft.up
  have DX_apart : DefX l.prog w K mg base 2 "apart" _ _ [[]] := g_71.getX X G bo3 fun F => QgW (n := 1) F T MX_check_box.up
  have DX_doubled : DefX l.prog w K mg base 3 "doubled" _ _ [[], [.int 0 t_64_0]] := g_64.getX X G (two1 bd3 bd2) fun F => QfB (n := 2) F T MX_check_slot.up M_make_room.up DX_walk.up
  have DX_fold_draft : DefX l.prog w K mg base 3 "fold_draft" _ _ [[]] := g_30.getX X G bo2 fun F => QdT (n := 2) F T DX_walk.up
  have DX_folded : DefX l.prog w K mg base 4 "folded" _ _ [[], [.int 0 t_68_0]] := g_68.getX X G (two1 bd3 bd2) fun F => Qgd (n := 3) F T MX_check_slot.up M_make_room.up DX_fold_draft.up
  have DX_shown : DefX l.prog w K mg base 7 "shown" _ _ [[]] := g_70.getX X G bo2 fun F => QgP (n := 6) F T DX_walk_draft.up
  have DX_law_late : DefX l.prog w K mg base 8 "_law_late" _ _ [[]] := g_58.getX X G bo4 fun F => QeR (n := 7) F T DX_walk.up DX_alike.up DX_apart.up DX_doubled.up DX_folded.up DX_shown.up MX_swap.up
  have D_law_alone : DefOk l.prog w K mg base 1 "_law_alone" _ _ [[]] := g_50.get X G bo1 fun F => Qgc (n := 0) F T (mg_none_of X G z_ValueError) (mg_of X G g_8) (mg_of X G g_0) (mg_of X G g_1) (mg_of X G g_2) (mg_of X G g_3) (mg_of X G g_4) (mg_of X G g_5) (mg_of X G g_6) (mg_of X G g_7) Z 
  have D_law_refused : DefOk l.prog w K mg base 9 "_law_refused" _ _ [[]] := g_29.get X G bo4 fun F => QeQ (n := 8) F T (mg_of X G g_8) (mg_of X G g_2) Z DX_law_early.up DX_law_late.up D_law_alone.up
  have D_law_whole : DefOk l.prog w K mg base 1 "_law_whole" _ _ [[]] := g_45.get X G bo1 fun F => Qf4 (n := 0) F T 
  have D_law_names : DefOk l.prog w K mg base 2 "_law_names" _ _ [[]] := g_48.get X G bo2 fun F => Qf8 (n := 1) F T D_law_whole.up
  have D_law_guards : DefOk l.prog w K mg base 3 "_law_guards" _ _ [[]] := g_43.get X G bo3 fun F => QfA (n := 2) F T D_law_names.up M_waiting.up M_words.up
  have D_law_same : DefOk l.prog w K mg base 2 "_law_same" _ _ [[]] := g_60.get X G bo2 fun F => QgQ (n := 1) F T D_law_whole.up
  have D_law_as : DefOk l.prog w K mg base 3 "_law_as" _ _ [[]] := g_65.get X G bo4 fun F => Qil (n := 2) F T D_law_names.up M_names.up D_law_whole.up M_size.up M_kind.up D_law_same.up M_field.up M_held.up
  exact QlC (n := 9) F_75 T D_law_many.up D_law_graph.up D_law_house.up D_law_slots.up D_law_watched.up D_law_waits.up D_sweep.up D_law_read.up M_held.up M_waiting.up M_words.up D_law_draw.up M_names.up D_law_refused.up D_law_guards.up D_law_as.up
theorem walk {l : OpenLaw} {q : Program} {loose : List Str} {XP : (Str → Option Value) → Heap → Prop} {YP : World → Heap → Prop} {d : DefRec} {K : Params → Fg} (hn : l.most = some 63) (hdf : d.params.defaults = [])
    (hY : ∀ (w : World) (h : Heap), YP w h → (K w.params).In h)
    (F : ∀ (w : World) (mg : Str → Option Value) (fa : Addr) (h : Heap), (K w.params).In h → h.Ns mainGlobals mg → mg d.name = some (.ref fa) →
      ∃ fd : FuncData, (∀ (s : Shared) (u : Value), BindsTo s fd ⟨[u], []⟩ [("script", u)]) ∧ ∀ base : Heap, (K w.params).In base → base.Ns mainGlobals mg → FnOk l.prog w (K w.params) mg base CX0 10 fa fd ["script"] (Qlr (K w.params))) :
    WalkO q loose XP YP l.row.toRowW d [] (fun f vs => PySem.call f vs) :=
  L2.walk_of (n := 63) (k := 10) (x := "script") (CX := fun _ => CX0) (sp := fun w => Qlr (K w.params)) hn (by decide) hdf ⟨rfl, by decide, by decide⟩ hY F (fun _ _ a ns hl hO hS => ⟨a, ns, rfl, Scr.of hO hS, hl, fun _ => rfl⟩) fun _ _ _ _ _ z => z
end LW
open PySem PySem.W PyProof.Rows
set_option maxRecDepth 100000 in
set_option maxHeartbeats 0 in
theorem PySem.Challenge.cw_lastword_k28_gone_is_gone_holds : PySem.Challenge.rw_lastword_k28_gone_is_gone.Holds := by
  w_on; o_law; k_head; (case hw => w_witness2)
  k_fill
  refine LW.walk (l := PySem.Challenge.rw_lastword_k28_gone_is_gone) rfl rfl (fun w h Y => PySem.W.kIn_of Y) ?F
  case F =>
    intro w mg fa h KX G hmg
    refine' LW.all_mk KX G hmg ?aCHouse ?aCSearch ?g_28 ?g_61 ?g_62 ?g_40 ?g_49 ?g_51 ?m_34 ?m_6 ?m_14 ?m_9 ?g_56 ?g_46 ?g_63 ?m_19 ?m_31 ?m_11 ?m_4 ?m_5 ?m_54 ?m_33 ?g_52 ?g_55 ?m_1 ?m_26 ?g_17 ?g_47 ?m_25 ?m_13 ?m_7 ?m_10 ?m_18 ?m_8 ?m_32 ?m_37 ?m_2 ?m_0 ?m_15 ?m_3 ?g_69 ?g_66 ?m_20 ?g_12 ?g_35 ?m_16 ?m_38 ?g_22 ?g_24 ?m_41 ?g_23 ?g_73 ?g_57 ?m_39 ?m_27 ?m_36 ?m_21 ?g_44 ?g_74 ?g_53 ?g_59 ?g_67 ?g_42 ?g_72 ?g_71 ?g_64 ?g_30 ?g_68 ?g_70 ?g_58 ?g_50 ?g_29 ?g_45 ?g_48 ?g_43 ?g_60 ?g_65 ?a_75 ?l_75 ?c_75 ?k_75 ?pgHouse ?hdHouse ?poHouse ?saHouse ?mkHouse ?kcHouse ?n_House_room ?n_House_slots ?n_House_last_name ?n_House_kinds ?n_House_fields ?n_House_queues ?n_House_told ?pgSearch ?hdSearch ?poSearch ?saSearch ?mkSearch ?kcSearch ?n_Search_house ?n_Search_rows ?n_Search_listed ?n_Search_locked ?z_len ?z_sorted ?z_range ?z_list ?z_isinstance ?z_int ?z_bool ?z_tuple ?z_str ?z_enumerate ?z_zip ?z_dict ?g_8 ?g_0 ?g_1 ?g_2 ?g_3 ?g_4 ?g_5 ?g_6 ?g_7 ?z_ValueError ?xg ?xf ?lf ?h_1 ?h_2 ?h_3 ?Z
    case aCHouse | aCSearch | a_75 | l_75 | c_75 | k_75 | pgHouse | hdHouse | poHouse | saHouse | mkHouse | kcHouse | n_House_room | n_House_slots | n_House_last_name | n_House_kinds | n_House_fields | n_House_queues | n_House_told | pgSearch | hdSearch | poSearch | saSearch | mkSearch | kcSearch | n_Search_house | n_Search_rows | n_Search_listed | n_Search_locked | z_len | z_sorted | z_range | z_list | z_isinstance | z_int | z_bool | z_tuple | z_str | z_enumerate | z_zip | z_dict | g_8 | g_0 | g_1 | g_2 | g_3 | g_4 | g_5 | g_6 | g_7 | z_ValueError | xg | xf | lf => k_is
    case g_28 | g_61 | g_62 | g_40 | g_49 | g_51 | g_56 | g_46 | g_63 | g_52 | g_55 | g_17 | g_47 | g_12 | g_35 | g_22 | g_24 | g_23 | g_57 | g_44 | g_74 | g_53 | g_59 | g_67 | g_42 | g_72 | g_71 | g_30 | g_70 | g_58 | g_50 | g_29 | g_45 | g_48 | g_43 | g_60 | g_65 => exact LW.gd_mk (by k_is) (by k_is) (by k_is) (by k_is)
    case m_6 | m_14 | m_19 | m_11 | m_4 | m_5 | m_54 | m_33 | m_1 | m_26 | m_25 | m_13 | m_7 | m_10 | m_18 | m_8 | m_32 | m_37 | m_2 | m_0 | m_15 | m_3 | m_20 | m_16 | m_38 | m_41 | m_39 | m_27 | m_36 | m_21 => exact LW.md_mk (by k_is) (by k_is) (by k_is) (by k_is) (by k_is)
    case g_69 | g_66 | g_73 | g_64 | g_68 => exact LW.gdd_mk (by k_is) (by k_is) (by k_is) (by k_is) (by k_is)
    case m_34 | m_9 | m_31 => exact LW.mdd_mk (by k_is) (by k_is) (by k_is) (by k_is) (by k_is) (by k_is)
    case h_1 | h_2 | h_3 => rfl
    case Z =>
      refine ⟨by decide, ?_, ?_, ?_, ?_, ?_, ?_⟩
      · refine LW.m8 ?_ ?_ ?_ ?_ ?_ ?_ ?_ ?_ <;> (show PySem.W.excIn _ _ _ _ = true; k_exc)
      · refine LW.m8 ?_ ?_ ?_ ?_ ?_ ?_ ?_ ?_ <;> exact LW.ExcI.of (by k_is) (by k_is) (by k_is) (by k_is) (by k_is) (by k_is) (by k_is)
      · refine LW.m8 ?_ ?_ ?_ ?_ ?_ ?_ ?_ ?_ <;> refine LW.m8 ?_ ?_ ?_ ?_ ?_ ?_ ?_ ?_ <;> (show PySem.W.kitOne _ _ _ = some _; kit_is)
      · refine LW.m8 ?_ ?_ ?_ ?_ ?_ ?_ ?_ ?_ <;> (show PySem.W.kitOne _ _ _ = some _; kit_is)
      · refine LW.m8 ?_ ?_ ?_ ?_ ?_ ?_ ?_ ?_ <;> (show PySem.W.kitOne _ _ _ = some _; kit_is)
      · refine LW.m8 ?_ ?_ ?_ ?_ ?_ ?_ ?_ ?_ <;> (show PySem.W.exmOne _ _ _ = some _; kts_exm)
#print axioms PySem.Challenge.cw_lastword_k28_gone_is_gone_holds

