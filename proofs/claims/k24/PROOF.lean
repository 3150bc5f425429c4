import PyProof.Rows.All
import Wide.All
import OpenK.AllK
import Wide.FinOn
import Lean
import PyProof.EqAt
import PyProof.EqKinds
import PyProof.TupleCall
import PySem.Challenge.RW_lastword_k24_read_or_refused
set_option Elab.async false
set_option linter.all false
set_option maxRecDepth 100000
set_option maxHeartbeats 4000000
/-! THE HAND LAYER, for ints, bools, texts, own classes, LISTS and tuples (index, slices, in, append, pop ..), calls, loops. Paste it whole ahead of your own text; what your proof does not reach may be deleted. -/
abbrev Fg := PySem.W.Frag
abbrev Pn := List (PySem.Addr × PySem.Obj)
namespace L2
open PySem PySem.Spec PyProof.Rows

/-- a key: an int or a str -/
abbrev Key := Sum Int Str
def keyIs : Key → Value → Bool
  | .inl k, v => Value.isInt k v
  | .inr x, v => Value.isStrOf x v
def keyH (w : World) : Key → Int
  | .inl k => hashInt k
  | .inr x => hashStr w x
theorem keyIs_shape : ∀ {k : Key} {v : Value}, keyIs k v = true → (∃ i t, k = Sum.inl i ∧ v = Value.int i t) ∨ (∃ x t, k = Sum.inr x ∧ v = Value.str x t)
  | .inl i, v, h => by
    obtain ⟨t, e⟩ := Value.isInt_shape (k := i) (v := v) h
    exact .inl ⟨i, t, rfl, e⟩
  | .inr x, v, h => by
    obtain ⟨t, e⟩ := Value.isStrOf_shape (x := x) (v := v) h
    exact .inr ⟨x, t, rfl, e⟩
theorem keyIs_int (i : Int) (t : Tok) : keyIs (.inl i) (.int i t) = true := by simp [keyIs, Value.isInt]
theorem keyIs_str (x : Str) (t : Tok) : keyIs (.inr x) (.str x t) = true := by simp [keyIs, Value.isStrOf]
theorem key_ll (a b : Int) : decide ((Sum.inl a : Key) = Sum.inl b) = (a == b) := by
  by_cases e : a = b
  · subst e; simp
  · have h : ¬ (Sum.inl a : Key) = Sum.inl b := fun q => e (Sum.inl.inj q)
    rw [decide_eq_false h]
    exact (beq_eq_false_iff_ne.mpr e).symm
theorem key_rr (a b : Str) : decide ((Sum.inr a : Key) = Sum.inr b) = decide (a = b) := by
  by_cases e : a = b
  · subst e; simp
  · have h : ¬ (Sum.inr a : Key) = Sum.inr b := fun q => e (Sum.inr.inj q)
    rw [decide_eq_false h, decide_eq_false e]
theorem key_lr (a : Int) (b : Str) : decide ((Sum.inl a : Key) = Sum.inr b) = false := decide_eq_false (fun q => nomatch q)
theorem key_rl (a : Str) (b : Int) : decide ((Sum.inr a : Key) = Sum.inl b) = false := decide_eq_false (fun q => nomatch q)

def mixKind (prog : Program) (w : World) : PySem.KeyKind prog w Key where
  is := keyIs
  hash := keyH w
  inj := fun v a b ha hb => by
    rcases keyIs_shape ha with ⟨i, t, rfl, rfl⟩ | ⟨x, t, rfl, rfl⟩
    · rcases keyIs_shape hb with ⟨j, u, rfl, e⟩ | ⟨y, u, rfl, e⟩
      · injection e with e1 _; rw [e1]
      · exact nomatch e
    · rcases keyIs_shape hb with ⟨j, u, rfl, e⟩ | ⟨y, u, rfl, e⟩
      · exact nomatch e
      · injection e with e1 _; rw [e1]
  byValue := fun k v h => by
    rcases keyIs_shape h with ⟨i, t, rfl, rfl⟩ | ⟨x, t, rfl, rfl⟩ <;> rfl
  pyHash := fun hv h => by
    rcases keyIs_shape hv with ⟨i, t, rfl, rfl⟩ | ⟨x, t, rfl, rfl⟩
    · exact wpAny_pyHash_int h
    · exact wpAny_pyHash_str h
  eqBool := fun hu hv h => by
    rcases keyIs_shape hu with ⟨i, t, rfl, rfl⟩ | ⟨x, t, rfl, rfl⟩
    · rcases keyIs_shape hv with ⟨j, u, rfl, rfl⟩ | ⟨y, u, rfl, rfl⟩
      · rw [key_ll] at h; exact wpAny_eqBool_int h
      · rw [key_lr] at h; exact SeqAt.EqAt.int_str i t y u _ _ _ _ h
    · rcases keyIs_shape hv with ⟨j, u, rfl, rfl⟩ | ⟨y, u, rfl, rfl⟩
      · rw [key_rl] at h; exact SeqAt.EqAt.str_int x t j u _ _ _ _ h
      · rw [key_rr] at h; exact wpAny_eqBool_str h
  «strs» := fun k x t v h => by
    rcases keyIs_shape h with ⟨i, u, rfl, e⟩ | ⟨y, u, rfl, e⟩
    · exact nomatch e
    · injection e with e1 _
      subst e1
      cases v <;> rfl

theorem mixKind_int (prog : Program) (w : World) (i : Int) (t : Tok) : (mixKind prog w).is (.inl i) (.int i t) = true := keyIs_int i t
theorem mixKind_str (prog : Program) (w : World) (x : Str) (t : Tok) : (mixKind prog w).is (.inr x) (.str x t) = true := keyIs_str x t
end L2

namespace L2
open PySem PySem.Spec PyProof.Rows

/-- a value, without the heap -/
inductive V where
  | non | bl (b : Bool) | int (i : Int) | str (x : Str) | byt (b : Array UInt8) | flt (b : UInt64) | ref (a : Addr) | ty (n : String)
  deriving DecidableEq

def RelV : V → Value → Prop
  | .non, u => u = Value.none
  | .bl b, u => u = Value.bool b
  | .int i, u => ∃ t, u = Value.int i t
  | .str x, u => ∃ t, u = Value.str x t
  | .byt b, u => ∃ t, u = Value.bytes b t
  | .flt b, u => ∃ t, u = Value.float b t
  | .ref a, u => u = Value.ref a
  | .ty n, u => u = Value.type n

abbrev Vals : List V → List Value → Prop := Paired RelV
theorem Vals.length {xs : List V} {us : List Value} (r : Vals xs us) : xs.length = us.length := Paired.length r
theorem Vals.get : ∀ {xs : List V} {us : List Value} {i : Nat} {x : V}, Vals xs us → xs[i]? = some x → ∃ u, us[i]? = some u ∧ RelV x u
  | _, _, _, _, .nil, e => by simp at e
  | _, _, 0, _, .cons r _, e => by simp at e; subst e; exact ⟨_, rfl, r⟩
  | _, _, i + 1, x, .cons _ t, e => by
    obtain ⟨u, h1, h2⟩ := Vals.get (i := i) (x := x) t (by simpa using e)
    exact ⟨u, by simpa using h1, h2⟩
theorem Vals.set {x : V} {u : Value} (r : RelV x u) : ∀ {xs : List V} {us : List Value} (i : Nat), Vals xs us → Vals (xs.set i x) (us.set i u)
  | _, _, _, .nil => .nil
  | _, _, 0, .cons _ t => .cons r t
  | _, _, i + 1, .cons q t => .cons q (Vals.set r i t)
theorem Vals.append : ∀ {xs ys : List V} {us ws : List Value}, Vals xs us → Vals ys ws → Vals (xs ++ ys) (us ++ ws)
  | _, _, _, _, .nil, s => s
  | _, _, _, _, .cons r t, s => .cons r (Vals.append t s)
theorem Vals.take : ∀ {xs : List V} {us : List Value} (n : Nat), Vals xs us → Vals (xs.take n) (us.take n)
  | _, _, 0, _ => .nil
  | _, _, _ + 1, .nil => .nil
  | _, _, n + 1, .cons r t => .cons r (Vals.take n t)
theorem Vals.drop : ∀ {xs : List V} {us : List Value} (n : Nat), Vals xs us → Vals (xs.drop n) (us.drop n)
  | _, _, 0, r => r
  | _, _, _ + 1, .nil => .nil
  | _, _, n + 1, .cons _ t => Vals.drop n t
def RelO : Option V → Option Value → Prop
  | some v, some u => RelV v u
  | none, none => True
  | _, _ => False
def KV {κ : Type} : List (κ × V) → List (κ × Value) → Prop := Paired fun (p : κ × V) (q : κ × Value) => p.1 = q.1 ∧ RelV p.2 q.2

/-- a key of a dict (00_mix): an int or a text -/
def kV : Key → V
  | .inl i => .int i
  | .inr x => .str x

/-- what stands at a tracked address -/
inductive HO where
  /-- a list -/
  | lst (xs : List V)
  /-- a tuple (never changes) -/
  | tup (xs : List V)
  /-- a dict whose keys are ints and texts; one whose keys are tuples of ints and texts (the empty one is both) -/
  | dK (kvs : List (Key × V)) | dT (kvs : List (List Key × V))
  /-- a set of ints: its members, its size -/
  | set (S : Int → Bool) (n : Nat)
  /-- an instance of the class at C, its dict at dx, its attributes -/
  | ins (C dx : Addr) (fs : List (Str × V))
  /-- the dict of the instance at x -/
  | own (x : Addr)
  /-- the dict of an exception -/
  | xd (fs : List (Str × V))
  /-- a bound method, f of x -/
  | met (f x : Addr)
  /-- a range object lo, lo + 1, .. below hi -/
  | rng (lo hi : Int)
  /-- a thing that is known to the object (the script; a dict while a loop walks it): read, never written while it is so -/
  | frz (o : Obj) (u : HO)
  /-- a code object's table -/
  | tbl (ps : Array Value)
  /-- any other thing, by what is true of its one object (a def of one's own: SetO a S n := HO.ext fun h => ..) -/
  | ext (φ : Heap → Prop)

abbrev Hp := Addr → Option HO
def upd (H : Hp) (a : Addr) (o : HO) : Hp := fun b => if b = a then some o else H b
theorem upd_same {H : Hp} {a : Addr} {o : HO} : upd H a o a = some o := by unfold upd; rw [if_pos rfl]
theorem upd_ne {H : Hp} {a b : Addr} {o : HO} (h : b ≠ a) : upd H a o b = H b := by unfold upd; rw [if_neg h]
/-- two objects of different content stand apart -/
theorem ne_of {H : Hp} {a b : Addr} {o u : HO} (h : H a = some o) (h' : H b = some u) (d : o ≠ u) : a ≠ b := by
  intro e; subst e; rw [h] at h'; exact d (Option.some.inj h')
theorem ne_of_none {H : Hp} {a b : Addr} {o : HO} (h : H a = some o) (h' : H b = none) : a ≠ b := by
  intro e; subst e; rw [h] at h'; cases h'

section
variable (P : Program) (w : World)
def ObjOk (H : Hp) (h : Heap) (a : Addr) : HO → Prop
  | .lst xs => xs.length ≤ sizeLine ∧ ∃ (its : List Value) (n : Nat), Vals xs its ∧ h.get? a = some { cls := .type "list", data := .seq its.toArray n }
  | .tup xs => xs.length ≤ sizeLine ∧ ∃ its : List Value, Vals xs its ∧ IsTup h a its.toArray
  | .dK kvs => kvs.length ≤ sizeLine ∧ (a == sysModules) = false ∧ ∃ vs, KV kvs vs ∧ h.DictOf (mixKind P w) a vs
  | .dT kvs => kvs.length ≤ sizeLine ∧ (a == sysModules) = false ∧ ∃ xs : List (List Key × Addr × Value),
      Paired (fun (p : List Key × V) (q : List Key × Addr × Value) => p.1 = q.1 ∧ H q.2.1 = some (.tup (p.1.map kV)) ∧ RelV p.2 q.2.2) kvs xs ∧
      ∃ o es ep, h.get? a = some o ∧ o.ExactDict ∧ o.data = .dict es ep ∧ es.toList = xs.map (entryOfKey (tupleKind (mixKind P w))) ∧ (xs.map (·.1)).Nodup
  | .set S n => h.SetOf (intKind P w) a S n
  | .ins C dx fs => H dx = some (.own a) ∧ fs.length ≤ 1000 ∧ dx ≠ a ∧ h.get? a = some (PySem.W.instObj C dx) ∧
      ∃ mA, h.Ns1 dx mA ∧ (∀ f, RelO (fs.lookup f) (mA f)) ∧ PySem.Within mA (fs.map (·.1))
  | .own _ => ∃ o, h.get? a = some o
  | .xd fs => ∃ mA, h.Ns1 a mA ∧ ∀ f, RelO (fs.lookup f) (mA f)
  | .rng lo hi => ∃ t u v, h.get? a = some { cls := .type "range", data := .fields #[.int lo t, .int hi u, .int 1 v] }
  | .frz o u => h.get? a = some o ∧ ObjOk H h a u
  | .tbl ps => h.get? a = some { cls := .none, data := .fields ps }
  | .met f x => h.get? a = some (PySem.W.methodObj (.ref f) (.ref x))
  | .ext φ => φ h ∧ (∃ o, h.get? a = some o) ∧ ∀ h1 h2 : Heap, φ h1 → (∀ o, h1.get? a = some o → h2.get? a = some o) → φ h2
/-- the abstract heap is held -/
def HOk (H : Hp) (h : Heap) : Prop := ∀ a o, H a = some o → ObjOk P w H h a o
end

section
variable {P : Program} {w : World} {H H' : Hp} {h h' : Heap} {a : Addr} {o : HO}
theorem ObjOk.lt (x : ObjOk P w H h a o) : a < h.objs.size := by
  cases o with
  | lst xs => obtain ⟨_, _, _, _, e⟩ := x; exact Heap.lt_size e
  | tup xs => obtain ⟨_, _, _, p⟩ := x; exact p.lt
  | dK kvs => obtain ⟨_, _, _, _, o, _, _, e, _⟩ := x; exact Heap.lt_size e
  | dT kvs => obtain ⟨_, _, _, _, o, _, _, e, _⟩ := x; exact Heap.lt_size e
  | set S n => obtain ⟨o, _, _, _, e, _⟩ := x; exact Heap.lt_size e
  | ins C dx fs => obtain ⟨_, _, _, e, _⟩ := x; exact Heap.lt_size e
  | own y => obtain ⟨_, e⟩ := x; exact Heap.lt_size e
  | xd fs => obtain ⟨_, ⟨_, _, _, e, _⟩, _⟩ := x; exact Heap.lt_size e
  | rng lo hi => obtain ⟨_, _, _, e⟩ := x; exact Heap.lt_size e
  | frz ob u => obtain ⟨e, _⟩ := x; exact Heap.lt_size e
  | tbl ps => exact Heap.lt_size (show h.get? a = some _ from x)
  | met f y => exact Heap.lt_size (show h.get? a = some _ from x)
  | ext φ => obtain ⟨_, ⟨_, e⟩, _⟩ := x; exact Heap.lt_size e
theorem Paired.mapP {α β : Type} {F G : α → β → Prop} : ∀ {l₁ : List α} {l₂ : List β}, Paired F l₁ l₂ → (∀ a b, F a b → G a b) → Paired G l₁ l₂
  | _, _, .nil, _ => .nil
  | _, _, .cons r t, f => .cons (f _ _ r) (Paired.mapP t f)
/-- what an object's description leans on: its own object, its own dict, the tuples -/
theorem ObjOk.stay (x : ObjOk P w H h a o) (k : ∀ b u, (b = a ∨ H b = some (.own a)) → h.get? b = some u → h'.get? b = some u)
    (ho : ∀ b, H b = some (.own a) → H' b = some (.own a)) (ht : ∀ b xs, H b = some (.tup xs) → H' b = some (.tup xs)) : ObjOk P w H' h' a o := by
  induction o with
  | lst xs => obtain ⟨z, its, n, r, e⟩ := x; exact ⟨z, its, n, r, k _ _ (.inl rfl) e⟩
  | tup xs => obtain ⟨z, its, r, ob, e, c⟩ := x; exact ⟨z, its, r, ob, k _ _ (.inl rfl) e, c⟩
  | dK kvs => obtain ⟨z, y, vs, r, ob, es, ep, e, c⟩ := x; exact ⟨z, y, vs, r, ob, es, ep, k _ _ (.inl rfl) e, c⟩
  | dT kvs =>
    obtain ⟨z, y, xs, r, ob, es, ep, e, c⟩ := x
    exact ⟨z, y, xs, Paired.mapP r fun p q z => ⟨z.1, ht _ _ z.2.1, z.2.2⟩, ob, es, ep, k _ _ (.inl rfl) e, c⟩
  | set S n => obtain ⟨ob, es, ep, t, e, c⟩ := x; exact ⟨ob, es, ep, t, k _ _ (.inl rfl) e, c⟩
  | ins C dx fs =>
    obtain ⟨d, z, ne, e, mA, ⟨od, es, ep, e2, c⟩, r⟩ := x
    exact ⟨ho _ d, z, ne, k _ _ (.inl rfl) e, mA, ⟨od, es, ep, k _ _ (.inr d) e2, c⟩, r⟩
  | own y => obtain ⟨ob, e⟩ := x; exact ⟨ob, k _ _ (.inl rfl) e⟩
  | xd fs => obtain ⟨mA, ⟨od, es, ep, e, c⟩, r⟩ := x; exact ⟨mA, ⟨od, es, ep, k _ _ (.inl rfl) e, c⟩, r⟩
  | rng lo hi => obtain ⟨t, u, v, e⟩ := x; exact ⟨t, u, v, k _ _ (.inl rfl) e⟩
  | frz ob u ih => obtain ⟨e, q⟩ := x; exact ⟨k _ _ (.inl rfl) e, ih q⟩
  | tbl ps =>
    have e : h.get? a = some { cls := .none, data := .fields ps } := x
    show h'.get? a = some { cls := .none, data := .fields ps }
    exact k a _ (.inl rfl) e
  | met f y =>
    have e : h.get? a = some (PySem.W.methodObj (.ref f) (.ref y)) := x
    show h'.get? a = some (PySem.W.methodObj (.ref f) (.ref y))
    exact k a _ (.inl rfl) e
  | ext φ => obtain ⟨p, ⟨o, e⟩, st⟩ := x; exact ⟨st _ _ p fun o q => k _ _ (.inl rfl) q, ⟨o, k _ _ (.inl rfl) e⟩, st⟩
theorem HOk.lt (x : HOk P w H h) (e : H a = some o) : a < h.objs.size := (x a o e).lt
theorem HOk.fresh (x : HOk P w H h) (e : h.objs.size ≤ a) : H a = none := by
  cases q : H a with
  | none => rfl
  | some u => exact absurd (Nat.lt_of_lt_of_le (x.lt q) e) (Nat.lt_irrefl _)
/-- every object of the heap is kept -/
theorem HOk.kept (x : HOk P w H h) (k : ∀ b u, h.get? b = some u → h'.get? b = some u) : HOk P w H h' := fun a o e =>
  (x a o e).stay (fun b u _ q => k b u q) (fun _ q => q) fun _ _ q => q
/-- a new object is laid and tracked -/
theorem HOk.laid (x : HOk P w H h) (k : ∀ b u, h.get? b = some u → h'.get? b = some u) (hp : h.objs.size ≤ a) (new : ObjOk P w (upd H a o) h' a o) : HOk P w (upd H a o) h' := fun b u e => by
  have hn := x.fresh hp
  by_cases hb : b = a
  · subst hb; rw [upd_same] at e; cases e; exact new
  · rw [upd_ne hb] at e
    exact (x b u e).stay (fun c v _ q => k c v q) (fun c q => by rw [upd_ne (ne_of_none q hn)]; exact q) fun c xs q => by rw [upd_ne (ne_of_none q hn)]; exact q
end

/-- what may be read as u: it is u, or a known u -/
def Rd (H : Hp) (a : Addr) (u : HO) : Prop := H a = some u ∨ ∃ o, H a = some (.frz o u)
theorem Rd.ok {P : Program} {w : World} {H : Hp} {h : Heap} {a : Addr} {u : HO} (r : Rd H a u) (x : HOk P w H h) : ObjOk P w H h a u := by
  rcases r with r | ⟨o, r⟩
  · exact x a u r
  · obtain ⟨_, q⟩ := x a _ r
    exact q
/-- what may be written -/
def Mut : Option HO → Prop
  | some (.lst _) => True
  | some (.dK _) => True
  | some (.dT _) => True
  | some (.set _ _) => True
  | some (.ins _ _ _) => True
  | some (.ext _) => True
  | _ => False
section
variable {P : Program} {w : World} {H : Hp} {h h' : Heap} {x e : Addr} {o' : HO}
/-- the object at e is changed: x itself, or the dict of the instance x -/
theorem HOk.write (ok : HOk P w H h) (mu : Mut (H x)) (he : e = x ∨ H e = some (.own x)) (k : ∀ b u, b ≠ e → h.get? b = some u → h'.get? b = some u) (heo : ∃ u, h'.get? e = some u)
    (new : ObjOk P w (upd H x o') h' x o') : HOk P w (upd H x o') h' := fun b u q => by
  have nown : ∀ c y, H c = some (.own y) → c ≠ x := fun c y r z => by subst z; rw [r] at mu; exact mu
  have ntup : ∀ c xs, H c = some (.tup xs) → c ≠ x := fun c xs r z => by subst z; rw [r] at mu; exact mu
  by_cases hb : b = x
  · subst hb; rw [upd_same] at q; cases q; exact new
  · rw [upd_ne hb] at q
    by_cases hbe : b = e
    · have q' : H b = some (.own x) := by
        rcases he with z | z
        · exact absurd (hbe.trans z) hb
        · rw [hbe]; exact z
      rw [q] at q'; cases q'
      obtain ⟨v, hv⟩ := heo
      exact ⟨v, by rw [hbe]; exact hv⟩
    · refine (ok b u q).stay (fun c v hc r => k c v ?_ r) (fun c r => by rw [upd_ne (nown c b r)]; exact r) fun c xs r => by rw [upd_ne (ntup c xs r)]; exact r
      rcases hc with rfl | hc
      · exact hbe
      · rintro rfl
        rcases he with z | z
        · exact nown c b hc z
        · rw [hc] at z; cases z; exact hb rfl
end

/-! ### kept unless tracked; of the frames at fs (the callers') the slots may change (an exception that passes writes there); of the records at ex (iterators) nothing is said -/
structure Un (fs ex : List Addr) (H H' : Hp) (h h' : Heap) : Prop where
  keep : ∀ b o, h.get? b = some o → H b = none → b ∉ fs → b ∉ ex → h'.get? b = some o
  slot : ∀ b o, h.get? b = some o → H b = none → b ∈ fs → b ∉ ex → ∃ sl, h'.get? b = some { o with slots := sl }
  free : ∀ b o, h.get? b = some o → H b = none → b ∉ ex → H' b = none
  there : ∀ b o, h.get? b = some o → b ∉ ex → ∃ o', h'.get? b = some o'
  tups : ∀ b xs, H b = some (.tup xs) → H' b = some (.tup xs)
  frzs : ∀ b o u, H b = some (.frz o u) → H' b = some (.frz o u)
  tbls : ∀ b ps, H b = some (.tbl ps) → ∃ more, H' b = some (.tbl (ps ++ more))
section
variable {fs fs' ex ex' : List Addr} {H H1 H2 : Hp} {h h1 h2 h' : Heap} {a x e : Addr} {o : HO}
theorem Un.any (u : Un fs ex H H1 h h1) {b : Addr} {ob : Obj} (q : h.get? b = some ob) (n : H b = none) (hx : b ∉ ex) : ∃ sl, h1.get? b = some { ob with slots := sl } := by
  by_cases hb : b ∈ fs
  · exact u.slot b ob q n hb hx
  · exact ⟨ob.slots, u.keep b ob q n hb hx⟩
theorem Un.kept (k : ∀ b u, h.get? b = some u → h'.get? b = some u) : Un fs ex H H h h' :=
  ⟨fun b ob q _ _ _ => k b ob q, fun b ob q _ _ _ => ⟨ob.slots, k b ob q⟩, fun _ _ _ n _ => n, fun b ob q _ => ⟨ob, k b ob q⟩, fun _ _ q => q, fun _ _ _ q => q, fun _ ps q => ⟨#[], by rw [q]; simp⟩⟩
theorem Un.refl : Un fs ex H H h h := Un.kept fun _ _ q => q
theorem Un.laid (k : ∀ b u, h.get? b = some u → h'.get? b = some u) (hp : h.objs.size ≤ a) (hn : H a = none) : Un fs ex H (upd H a o) h h' where
  keep := fun b u q _ _ _ => k b u q
  slot := fun b u q _ _ _ => ⟨u.slots, k b u q⟩
  free := fun b u q n _ => by rw [upd_ne (Nat.ne_of_lt (Nat.lt_of_lt_of_le (Heap.lt_size q) hp))]; exact n
  there := fun b u q _ => ⟨u, k b u q⟩
  tups := fun b xs q => by rw [upd_ne (ne_of_none q hn)]; exact q
  frzs := fun b u xs q => by rw [upd_ne (ne_of_none q hn)]; exact q
  tbls := fun b ps q => ⟨#[], by rw [upd_ne (ne_of_none q hn), q]; simp⟩
theorem Un.write (mu : Mut (H x)) (he : e = x ∨ H e = some (.own x)) (k : ∀ b u, b ≠ e → h.get? b = some u → h'.get? b = some u) (heo : ∃ u, h'.get? e = some u) : Un fs ex H (upd H x o) h h' := by
  have hx : ∀ b, H b = none → b ≠ x := fun b n z => by subst z; rw [n] at mu; exact mu
  have hb : ∀ b, H b = none → b ≠ e := fun b n z => by
    subst z
    rcases he with r | r
    · exact hx b n r
    · rw [n] at r; cases r
  have hm : ∀ b u, H b = some u → ¬ Mut (some u) → b ≠ x := fun b u q nm z => by subst z; rw [q] at mu; exact nm mu
  refine ⟨fun b u q n _ _ => k b u (hb b n) q, fun b u q n _ _ => ⟨u.slots, k b u (hb b n) q⟩, fun b u q n _ => by rw [upd_ne (hx b n)]; exact n, fun b u q _ => ?_,
    fun b xs q => by rw [upd_ne (hm b _ q fun z => z)]; exact q, fun b u xs q => by rw [upd_ne (hm b _ q fun z => z)]; exact q, fun b ps q => ⟨#[], by rw [upd_ne (hm b _ q fun z => z), q]; simp⟩⟩
  by_cases hbe : b = e
  · subst hbe; exact heo
  · exact ⟨u, k b u hbe q⟩
end

/-! ### the heap without what is tracked -/
def trk (h : Heap) (H : Hp) : List Addr := (List.range h.objs.size).filter fun a => (H a).isSome
def hidT (h : Heap) (H : Hp) : Heap := PySem.W.hideAll h (trk h H)
theorem hidT_size (h : Heap) (H : Hp) : (hidT h H).objs.size = h.objs.size := PySem.W.hideAll_size _ _
theorem hidT_get {h : Heap} {H : Hp} {b : Addr} {o : Obj} (e : h.get? b = some o) (n : H b = none) : (hidT h H).get? b = some o :=
  PySem.W.hideAll_get _ e fun hm => by
    have q : (H b).isSome = true := (List.mem_filter.mp hm).2
    rw [n] at q; simp at q
theorem of_hidT {h : Heap} {H : Hp} {b : Addr} {o : Obj} (e : (hidT h H).get? b = some o) : h.get? b = some o ∧ H b = none := by
  have e' : h.get? b = some o := PySem.W.of_hideAll (trk h H) e
  refine ⟨e', ?_⟩
  cases q : H b with
  | none => rfl
  | some x =>
    have hm : b ∈ trk h H := List.mem_filter.mpr ⟨List.mem_range.mpr (Heap.lt_size e'), by simp [q]⟩
    have z : (hidT h H).get? b = none := PySem.W.hideAll_none (trk h H) hm
    rw [z] at e; cases e

/-! ### OpenK's ledger, filled with every new object but one -/
def allNews (g h : Heap) (L : Addr) : Pn := (List.range h.objs.size).filterMap fun a => if a = L ∨ (g.get? a).isSome = true then none else (h.get? a).map fun o => (a, o)
def rest (g h : Heap) (L d : Addr) : Pn := (allNews g h L).filter fun p => decide (p.1 ≠ d)
end L2

namespace L2
open PySem PySem.Spec PyProof.Rows

/-- the module's facts, over the base: the heap at the law's entry without what is tracked there -/
structure Mod (K : Fg) (mg : Str → Option Value) (base : Heap) : Prop where
  kin : K.In base
  glob : base.Ns mainGlobals mg
  blt : ∃ mb, base.Ns builtinsNs mb ∧ ∀ x : Str, x ≠ "__name__" → mb x = bootBuiltins x
  nolimit : base.NoLimit

/-- the context: a def's body (or a comprehension's block) running. base: fixed through the whole law; s₀, H₀: the entry; outer: the frames whose slots others may change (a def's callers); stack: all frames that run;
   ex: iterators that were made ahead of the entry and are walked here (a comprehension's); fn: the names whose cells were made at the entry (a def: all; a comprehension's block: its own); calm: not within an except suite; pn: pins that every state bears; xe: what is wanted of an exception that leaves the code -/
structure Cx where
  prog : Program
  w : World
  K : Fg
  mg : Str → Option Value
  base : Heap
  A : Around
  N : List Str
  s₀ : Shared
  H₀ : Hp
  env : Env
  outer : List Env
  stack : List Env
  ex : List Addr
  fn : Str → Bool
  calm : Bool
  pn : Pn
  xe : Value → Shared → Prop
/-- the callers' frames -/
def frs (l : List Env) : List Addr := l.filterMap (·.frame)
abbrev Cx.fs (X : Cx) : List Addr := frs X.outer

def Vis (sc : Scope) (x : Str) : Prop := sc.names.lookup x = some .local ∨ sc.names.lookup x = some .cell ∨ sc.names.lookup x = some .free
def Loc (sc : Scope) (x : Str) : Prop := sc.names.lookup x = some .local ∨ sc.names.lookup x = some .cell
def Look (env : Env) (h : Heap) (m : Str → Option Value) (x : Str) (u : Value) : Prop :=
  (env.kindOf x = some .local ∧ m x = some u) ∨ ((env.kindOf x = some .cell ∨ env.kindOf x = some .free) ∧ ∃ c, env.cells.lookup x = some c ∧ h.IsCell c (some u))

structure Cx.Ok (X : Cx) : Prop where
  mod : Mod X.K X.mg X.base
  kind : X.env.scope.kind = .function
  glob : X.env.globals = mainGlobals
  blt : X.env.builtins = builtinsNs
  above : X.s₀.heap.objs.size ≤ X.env.locals
  inj : ∀ x y c, X.env.cells.lookup x = some c → X.env.cells.lookup y = some c → x = y
  has : ∀ x, (X.env.kindOf x = some .cell ∨ X.env.kindOf x = some .free) → ∃ c, X.env.cells.lookup x = some c
  cab : ∀ x c, X.fn x = true → X.env.cells.lookup x = some c → X.s₀.heap.objs.size ≤ c
  hd : X.calm = true → X.A.handled = none
  frames : X.A.frames = some X.stack
  stk : X.stack = X.outer ∨ (X.stack = X.env :: X.outer ∧ X.env.frame = some X.env.locals)
  exf : ∀ b ∈ X.ex, b ≠ X.env.locals ∧ ∀ x c, X.env.cells.lookup x = some c → c ≠ b
  bs : ∀ b o, X.base.get? b = some o → X.s₀.heap.get? b = some o ∧ X.H₀ b = none
  bsz : X.base.objs.size ≤ X.s₀.heap.objs.size
  noex : ∀ b o, X.base.get? b = some o → b ∉ X.ex
  exfs : ∀ b ∈ X.ex, b ∉ X.fs
  funs : X.s₀.heap.FunFrames X.base X.outer
  frf : ∀ b ∈ X.fs, X.H₀ b = none

structure Inv (X : Cx) (pins : Pn) (σ : List (Option V)) (H : Hp) (s : Shared) : Prop where
  ok : X.Ok
  os : s.os = X.s₀.os
  bare : AllBare s.gens
  base : Un X.fs X.ex X.H₀ H X.s₀.heap s.heap
  loc : ∃ m, s.heap.Ns X.env.locals m ∧ ∀ (i : Nat) (x : Str) (v : V), X.N[i]? = some x → σ[i]? = some (some v) → Vis X.env.scope x → ∃ u, RelV v u ∧ Look X.env s.heap m x u
  cell : ∀ x c, X.env.cells.lookup x = some c → ∃ v, s.heap.IsCell c v
  free : H X.env.locals = none
  freeC : ∀ x c, X.env.cells.lookup x = some c → H c = none
  pin : ∀ p ∈ X.pn ++ pins, s.heap.get? p.1 = some p.2 ∧ H p.1 = none ∧ p.1 ≠ X.env.locals ∧ p.1 ∉ X.fs ∧ ∀ v, p.2.data ≠ .cell v
  hok : HOk X.prog X.w H s.heap
  len : σ.length = X.N.length

section
variable {X : Cx} {pins : Pn} {σ : List (Option V)} {H H' : Hp} {s : Shared} {h' : Heap}

theorem Cx.Ok.nofr (ok : X.Ok) {b : Addr} {o : Obj} (e : X.base.get? b = some o) : b ∉ X.fs := fun hb => by
  have := (ok.funs.mem hb).1
  rw [e] at this; cases this
theorem Inv.bs (I : Inv X pins σ H s) : ∀ b o, X.base.get? b = some o → s.heap.get? b = some o ∧ H b = none := fun b o e =>
  ⟨I.base.keep b o (I.ok.bs b o e).1 (I.ok.bs b o e).2 (I.ok.nofr e) (I.ok.noex b o e), I.base.free b o (I.ok.bs b o e).1 (I.ok.bs b o e).2 (I.ok.noex b o e)⟩
theorem Inv.bk (I : Inv X pins σ H s) : ∀ b o, X.base.get? b = some o → s.heap.get? b = some o := fun b o e => (I.bs b o e).1
theorem Inv.mod (I : Inv X pins σ H s) : Mod X.K X.mg X.base := I.ok.mod
theorem Inv.kIn (I : Inv X pins σ H s) : X.K.In s.heap := I.ok.mod.kin.keeps I.bk
theorem Inv.lt (I : Inv X pins σ H s) : X.env.locals < s.heap.objs.size := let ⟨_, hn, _⟩ := I.loc; hn.lt
theorem Inv.sz (I : Inv X pins σ H s) : X.s₀.heap.objs.size ≤ s.heap.objs.size := Nat.le_trans I.ok.above (Nat.le_of_lt I.lt)
theorem Inv.nofs (I : Inv X pins σ H s) {a : Addr} (h : s.heap.objs.size ≤ a) : a ∉ X.fs := fun hb => by
  obtain ⟨_, o, ho, _⟩ := I.ok.funs.mem hb
  exact absurd (Nat.lt_of_lt_of_le (Heap.lt_size ho) (Nat.le_trans I.sz h)) (Nat.lt_irrefl _)
theorem Inv.cne (I : Inv X pins σ H s) : ∀ x c, X.env.cells.lookup x = some c → c ≠ X.env.locals := fun x c e z => by
  obtain ⟨v, o, ho, hd⟩ := I.cell x c e
  obtain ⟨m, ⟨o', es, ep, ho', hd', _⟩, _⟩ := I.loc
  rw [z, ho'] at ho; cases ho; rw [hd'] at hd; cases hd
theorem Inv.funs (I : Inv X pins σ H s) : s.heap.FunFrames X.base X.outer := by
  have all : ∀ (l : List Env), (∀ b ∈ frs l, b ∈ X.fs) → X.s₀.heap.FunFrames X.base l → s.heap.FunFrames X.base l := by
    intro l
    induction l with
    | nil => intro _ _; trivial
    | cons env r ih =>
      intro hs hl
      obtain ⟨hk, ⟨L, o, hf, hn, ho, hd⟩, hr⟩ := hl
      have hL : L ∈ X.fs := hs L (by unfold frs; rw [List.filterMap_cons, hf]; exact List.mem_cons_self)
      obtain ⟨sl, e⟩ := I.base.slot L o ho (I.ok.frf L hL) hL fun z => I.ok.exfs L z hL
      exact ⟨hk, ⟨L, _, hf, hn, e, hd⟩, ih (fun b hb => hs b (by unfold frs; rw [List.filterMap_cons, hf]; exact List.mem_cons_of_mem _ hb)) hr⟩
  exact all X.outer (fun _ hb => hb) I.ok.funs

/-- the frames that run, for a call -/
theorem Inv.stack (I : Inv X pins σ H s) : s.heap.FunFrames X.base X.stack := by
  rcases I.ok.stk with e | ⟨e, hf⟩
  · rw [e]; exact I.funs
  · rw [e]
    obtain ⟨m, hn, _⟩ := I.loc
    refine .cons (by rw [I.ok.kind]; decide) hf hn ?_ I.funs
    exact Heap.get?_none_of_le (Nat.le_trans I.ok.bsz I.ok.above)
theorem Inv.stkSub (I : Inv X pins σ H s) : ∀ b ∈ frs X.stack, b ∈ X.env.locals :: X.fs := fun b hb => by
  rcases I.ok.stk with e | ⟨e, hf⟩
  · rw [e] at hb; exact List.mem_cons_of_mem _ hb
  · rw [e] at hb
    unfold frs at hb
    rw [List.filterMap_cons, hf] at hb
    exact hb
theorem Inv.stkFree (I : Inv X pins σ H s) : ∀ b ∈ frs X.stack, H b = none := fun b hb => by
  rcases List.mem_cons.mp (I.stkSub b hb) with e | hb
  · rw [e]; exact I.free
  · obtain ⟨_, o, ho, _⟩ := I.ok.funs.mem hb
    exact I.base.free b o ho (I.ok.frf b hb) fun z => I.ok.exfs b z hb

/-- THE STEP: the untracked objects but the frame and the records at ch are kept (the callers' frames up to slots), the frame's map is kept, the new abstract heap is held -/
theorem Inv.step {g' : Array GenState} {t' : Nat} {d' : Drawn} {ch : List Addr} (I : Inv X pins σ H s)
    (hch : ∀ b ∈ ch, (b ∈ X.ex ∨ X.s₀.heap.objs.size ≤ b) ∧ b ≠ X.env.locals ∧ (∀ x c, X.env.cells.lookup x = some c → c ≠ b) ∧ ∀ p ∈ X.pn ++ pins, p.1 ≠ b)
    (keep : ∀ b o, b ≠ X.env.locals → b ∉ X.fs → b ∉ ch → s.heap.get? b = some o → H b = none → h'.get? b = some o)
    (slot : ∀ b o, b ≠ X.env.locals → b ∈ X.fs → b ∉ ch → s.heap.get? b = some o → H b = none → ∃ sl, h'.get? b = some { o with slots := sl }) (free : ∀ b o, b ∉ ch → s.heap.get? b = some o → H b = none → H' b = none)
    (there : ∀ b o, b ∉ ch → s.heap.get? b = some o → ∃ o', h'.get? b = some o')
    (tups : ∀ b xs, H b = some (.tup xs) → H' b = some (.tup xs)) (frzs : ∀ b o u, H b = some (.frz o u) → H' b = some (.frz o u)) (tbls : ∀ b ps, H b = some (.tbl ps) → ∃ more, H' b = some (.tbl (ps ++ more)))
    (ns : ∀ m, s.heap.Ns X.env.locals m → h'.Ns X.env.locals m) (hok : HOk X.prog X.w H' h') (hg : AllBare g') :
    Inv X pins σ H' { s with heap := h', gens := g', drawn := d', toks := t' } := by
  have neL : ∀ b o, X.s₀.heap.get? b = some o → b ≠ X.env.locals := fun b o e => Nat.ne_of_lt (Nat.lt_of_lt_of_le (Heap.lt_size e) I.ok.above)
  have neC : ∀ b o, X.s₀.heap.get? b = some o → b ∉ X.ex → b ∉ ch := fun b o e hx hb => by
    rcases (hch b hb).1 with z | z
    · exact hx z
    · exact absurd (Nat.lt_of_lt_of_le (Heap.lt_size e) z) (Nat.lt_irrefl _)
  have cellK : ∀ x c, X.env.cells.lookup x = some c → ∀ v, s.heap.IsCell c v → h'.IsCell c v := fun x c e v ⟨o, ho, hd⟩ => by
    have nch : c ∉ ch := fun z => (hch c z).2.2.1 x c e rfl
    by_cases hc : c ∈ X.fs
    · obtain ⟨sl, q⟩ := slot c o (I.cne x c e) hc nch ho (I.freeC x c e)
      exact ⟨_, q, hd⟩
    · exact ⟨o, keep c o (I.cne x c e) hc nch ho (I.freeC x c e), hd⟩
  refine ⟨I.ok, I.os, hg, ⟨fun b o e n hb hx => ?_, fun b o e n hb hx => ?_, fun b o e n hx => ?_, fun b o e hx => ?_, fun b xs e => tups b xs (I.base.tups b xs e), fun b o xs e => frzs b o xs (I.base.frzs b o xs e), fun b ps e => ?_⟩, ?_, fun x c e => ?_, ?_, fun x c e => ?_, fun p hp => ?_, hok, I.len⟩
  · exact keep b o (neL b o e) hb (neC b o e hx) (I.base.keep b o e n hb hx) (I.base.free b o e n hx)
  · obtain ⟨sl, e1⟩ := I.base.slot b o e n hb hx
    obtain ⟨sl', e2⟩ := slot b _ (neL b o e) hb (neC b o e hx) e1 (I.base.free b o e n hx)
    exact ⟨sl', e2⟩
  · obtain ⟨o', e1⟩ := I.base.there b o e hx
    exact free b o' (neC b o e hx) e1 (I.base.free b o e n hx)
  · obtain ⟨o', e1⟩ := I.base.there b o e hx
    exact there b o' (neC b o e hx) e1
  · obtain ⟨m1, e1⟩ := I.base.tbls b ps e
    obtain ⟨m2, e2⟩ := tbls b _ e1
    exact ⟨m1 ++ m2, by rw [e2, Array.append_assoc]⟩
  · obtain ⟨m, hn, hl⟩ := I.loc
    refine ⟨m, ns m hn, fun i x v e1 e2 e3 => ?_⟩
    obtain ⟨u, r, l⟩ := hl i x v e1 e2 e3
    refine ⟨u, r, ?_⟩
    rcases l with l | ⟨k, c, e, z⟩
    · exact .inl l
    · exact .inr ⟨k, c, e, cellK x c e _ z⟩
  · obtain ⟨v, z⟩ := I.cell x c e
    exact ⟨v, cellK x c e v z⟩
  · obtain ⟨m, ⟨o, _, _, ho, _⟩, _⟩ := I.loc
    exact free _ o (fun z => (hch _ z).2.1 rfl) ho I.free
  · obtain ⟨v, o, ho, hd⟩ := I.cell x c e
    exact free c o (fun z => (hch c z).2.2.1 x c e rfl) ho (I.freeC x c e)
  · obtain ⟨e, n, ne, nf, d⟩ := I.pin p hp
    have nch : p.1 ∉ ch := fun z => (hch p.1 z).2.2.2 p hp rfl
    exact ⟨keep p.1 p.2 ne nf nch e n, free p.1 p.2 nch e n, ne, nf, d⟩
/-- .. where the frame's own object is kept too -/
theorem Inv.un {t' : Nat} (I : Inv X pins σ H s) (u : Un X.fs [] H H' s.heap h') (hok : HOk X.prog X.w H' h') : Inv X pins σ H' { s with heap := h', toks := t' } := by
  obtain ⟨m, ⟨o, es, ep, ho, r⟩, _⟩ := id I.loc
  obtain ⟨sl, hL⟩ := u.any ho I.free (by simp)
  exact I.step (g' := s.gens) (d' := s.drawn) (ch := []) (fun _ z => nomatch z) (fun b o _ hb _ e n => u.keep b o e n hb (by simp)) (fun b o _ hb _ e n => u.slot b o e n hb (by simp)) (fun b o _ e n => u.free b o e n (by simp)) (fun b o _ e => u.there b o e (by simp)) u.tups u.frzs u.tbls (fun m' hm => by
    obtain ⟨o', es', ep', ho', r'⟩ := hm
    rw [ho] at ho'; cases ho'
    exact ⟨_, es', ep', hL, r'⟩) hok I.bare
/-- behind a call (or a comprehension's block): the slots of this frame may have changed too, the records at ch may have turned -/
theorem Inv.call {g' : Array GenState} {t' : Nat} {d' : Drawn} {ch : List Addr} (I : Inv X pins σ H s) (u : Un (frs X.stack) ch H H' s.heap h') (hok : HOk X.prog X.w H' h') (hg : AllBare g')
    (hch : ∀ b ∈ ch, (b ∈ X.ex ∨ X.s₀.heap.objs.size ≤ b) ∧ b ≠ X.env.locals ∧ (∀ x c, X.env.cells.lookup x = some c → c ≠ b) ∧ ∀ p ∈ X.pn ++ pins, p.1 ≠ b) :
    Inv X pins σ H' { s with heap := h', gens := g', drawn := d', toks := t' } := by
  obtain ⟨m, ⟨o, es, ep, ho, r⟩, _⟩ := id I.loc
  obtain ⟨sl, hL⟩ := u.any ho I.free fun z => (hch _ z).2.1 rfl
  exact I.step (ch := ch) hch (fun b o hL hb hc e n => u.keep b o e n (fun z => (List.mem_cons.mp (I.stkSub b z)).elim hL hb) hc) (fun b o _ _ hc e n => u.any e n hc) (fun b o hc e n => u.free b o e n hc) (fun b o hc e => u.there b o e hc) u.tups u.frzs u.tbls (fun m' hm => by
    obtain ⟨o', es', ep', ho', r'⟩ := hm
    rw [ho] at ho'; cases ho'
    exact ⟨_, es', ep', hL, r'⟩) hok hg
/-- an untracked record of ours (an iterator) has turned -/
theorem Inv.turned {t' : Nat} {it : Addr} (I : Inv X pins σ H s) (k : ∀ b o, b ≠ it → s.heap.get? b = some o → h'.get? b = some o) (hn : H it = none) (hL : it ≠ X.env.locals)
    (h1 : it ∈ X.ex ∨ X.s₀.heap.objs.size ≤ it) (h2 : ∀ x c, X.env.cells.lookup x = some c → c ≠ it) (h3 : ∀ p ∈ X.pn ++ pins, p.1 ≠ it) : Inv X pins σ H { s with heap := h', toks := t' } := by
  have nit : ∀ b u, H b = some u → b ≠ it := fun b u e z => by rw [z, hn] at e; cases e
  refine I.step (g' := s.gens) (d' := s.drawn) (ch := [it]) (fun b hb => ?_) (fun b o _ _ hc e _ => k b o (fun z => hc (by simp [z])) e) (fun b o _ _ hc e _ => ⟨o.slots, k b o (fun z => hc (by simp [z])) e⟩) (fun _ _ _ _ n => n)
    (fun b o hc e => ⟨o, k b o (fun z => hc (by simp [z])) e⟩) (fun _ _ e => e) (fun _ _ _ e => e) (fun b ps e => ⟨#[], by rw [e]; simp⟩) (fun m hm => ?_) (fun b u e => ?_) I.bare
  · have e : b = it := by simpa using hb
    subst e
    exact ⟨h1, hL, h2, h3⟩
  · obtain ⟨o, es, ep, ho, r⟩ := hm
    exact ⟨o, es, ep, k _ o (Ne.symm hL) ho, r⟩
  · refine (I.hok b u e).stay (fun c v hc q => k c v ?_ q) (fun _ q => q) fun _ _ q => q
    rcases hc with z | z
    · rw [z]; exact nit b u e
    · exact nit c _ z
theorem Inv.tok (I : Inv X pins σ H s) (t : Nat) : Inv X pins σ H { s with toks := t } := I.un (h' := s.heap) (t' := t) Un.refl I.hok
/-- all objects kept -/
theorem Inv.kept {t' : Nat} (I : Inv X pins σ H s) (k : ∀ b u, s.heap.get? b = some u → h'.get? b = some u) : Inv X pins σ H { s with heap := h', toks := t' } := I.un (Un.kept k) (I.hok.kept k)
/-- a new object laid and tracked -/
theorem Inv.laid {a : Addr} {o : HO} {t' : Nat} (I : Inv X pins σ H s) (k : ∀ b u, s.heap.get? b = some u → h'.get? b = some u) (hp : s.heap.objs.size ≤ a) (new : ObjOk X.prog X.w (upd H a o) h' a o) :
    Inv X pins σ (upd H a o) { s with heap := h', toks := t' } := I.un (Un.laid k hp (I.hok.fresh hp)) (I.hok.laid k hp new)
/-- an object written -/
theorem Inv.write {x e : Addr} {o : HO} {t' : Nat} (I : Inv X pins σ H s) (mu : Mut (H x)) (he : e = x ∨ H e = some (.own x)) (k : ∀ b u, b ≠ e → s.heap.get? b = some u → h'.get? b = some u) (heo : ∃ u, h'.get? e = some u)
    (new : ObjOk X.prog X.w (upd H x o) h' x o) : Inv X pins σ (upd H x o) { s with heap := h', toks := t' } := I.un (Un.write mu he k heo) (I.hok.write mu he k heo new)
theorem Inv.pins_of {pins' : Pn} (I : Inv X pins σ H s) (h : ∀ p ∈ pins', s.heap.get? p.1 = some p.2 ∧ H p.1 = none ∧ p.1 ≠ X.env.locals ∧ p.1 ∉ X.fs ∧ ∀ v, p.2.data ≠ .cell v) : Inv X pins' σ H s :=
  ⟨I.ok, I.os, I.bare, I.base, I.loc, I.cell, I.free, I.freeC, fun p hp => (List.mem_append.mp hp).elim (fun z => I.pin p (List.mem_append_left _ z)) (h p), I.hok, I.len⟩

theorem nodup_ix {N : List Str} (hN : N.Nodup) {i j : Nat} {x : Str} (a : N[i]? = some x) (b : N[j]? = some x) : i = j := by
  obtain ⟨h1, e1⟩ := List.getElem?_eq_some_iff.mp a
  obtain ⟨h2, e2⟩ := List.getElem?_eq_some_iff.mp b
  exact (List.getElem_inj hN).mp (e1.trans e2.symm)

/-- a name is stored; what changed -/
theorem store_ok2 {M : Model} {A : Around} {E : Value → Shared → Prop} {i : Nat} {x : Str} {v : V} {u : Value} {Q : Unit → Shared → Prop} (I : Inv X pins σ H s) (hN : X.N.Nodup) (hi : X.N[i]? = some x) (hx : Loc X.env.scope x) (r : RelV v u)
    (h : ∀ s', Inv X pins (σ.set i (some v)) H s' → (∃ a, Heap.SameBut a s.heap s'.heap ∧ (a = X.env.locals ∨ X.env.cells.lookup x = some a)) → Q () s') (hf : X.fn x = true ∨ X.env.scope.names.lookup x = some .local := by first | exact .inl rfl | exact .inr rfl | assumption) : wpAny M A (storeName X.env x u) Q E s := by
  obtain ⟨m, hn, hl⟩ := id I.loc
  have hcls : (X.env.scope.kind == .class || (X.env.scope.kind == .module && X.env.locals != X.env.globals)) = false := by rw [I.ok.kind]; rfl
  have hiσ : i < σ.length := by rw [I.len]; exact (List.getElem?_eq_some_iff.mp hi).1
  have cne := I.cne
  have tracked : ∀ {a : Addr} {h' : Heap}, (∃ o, s.heap.get? a = some o ∧ H a = none) → Heap.SameBut a s.heap h' → HOk X.prog X.w H h' := fun {a h'} ha hs b ob e => by
    obtain ⟨_, _, hfree⟩ := ha
    refine (I.hok b ob e).stay (fun c w' hc q => (hs.2 c ?_).trans q) (fun _ q => q) fun _ _ q => q
    rintro rfl
    rcases hc with rfl | hc
    · rw [hfree] at e; cases e
    · rw [hfree] at hc; cases hc
  rcases hx with hk | hk
  · refine wpAny_storeName_local hk hn (fun h' hn' hs => ?_) hcls
    obtain ⟨oL, _, _, hoL, _⟩ := id hn
    refine h _ ⟨I.ok, I.os, I.bare, ⟨fun b o e n hb hx => ?_, fun b o e n hb hx => ?_, I.base.free, fun b o e hx => ?_, I.base.tups, I.base.frzs, I.base.tbls⟩, ⟨_, hn', fun j y v' e1 e2 e3 => ?_⟩, fun y c e => ?_, I.free, I.freeC, fun p hp => ?_, tracked ⟨oL, hoL, I.free⟩ hs, by simpa using I.len⟩ ⟨_, hs, .inl rfl⟩
    · exact (hs.2 b (Nat.ne_of_lt (Nat.lt_of_lt_of_le (Heap.lt_size e) I.ok.above))).trans (I.base.keep b o e n hb hx)
    · obtain ⟨sl, e1⟩ := I.base.slot b o e n hb hx
      exact ⟨sl, (hs.2 b (Nat.ne_of_lt (Nat.lt_of_lt_of_le (Heap.lt_size e) I.ok.above))).trans e1⟩
    · obtain ⟨o', e1⟩ := I.base.there b o e hx
      exact ⟨o', (hs.2 b (Nat.ne_of_lt (Nat.lt_of_lt_of_le (Heap.lt_size e) I.ok.above))).trans e1⟩
    · by_cases hj : j = i
      · subst hj
        rw [hi] at e1; cases e1
        rw [List.getElem?_set_self hiσ] at e2
        cases e2
        exact ⟨u, r, .inl ⟨hk, by simp⟩⟩
      · rw [List.getElem?_set_ne (Ne.symm hj)] at e2
        obtain ⟨u', r', q⟩ := hl j y v' e1 e2 e3
        refine ⟨u', r', ?_⟩
        rcases q with ⟨k, e⟩ | ⟨k, c, e, z⟩
        · refine .inl ⟨k, ?_⟩
          have : y ≠ x := fun e => hj (nodup_ix hN e1 (e ▸ hi))
          simp [this, e]
        · exact .inr ⟨k, c, e, z.sameBut hs (cne y c e)⟩
    · obtain ⟨w', z⟩ := I.cell y c e
      exact ⟨w', z.sameBut hs (cne y c e)⟩
    · obtain ⟨e, n, ne, nf, d⟩ := I.pin p hp
      exact ⟨(hs.2 p.1 ne).trans e, n, ne, nf, d⟩
  · have hfn : X.fn x = true := by
      rcases hf with z | z
      · exact z
      · rw [z] at hk; cases hk
    obtain ⟨c, hc⟩ := I.ok.has x (.inl hk)
    obtain ⟨w', z⟩ := I.cell x c hc
    refine wpAny_storeName_cell I.ok.kind hk hc z (fun h' hc' hs => ?_)
    obtain ⟨oc, hoc, hocd⟩ := id z
    refine h { s with heap := h' } ⟨I.ok, I.os, I.bare, ⟨fun b o e n hb hx => ?_, fun b o e n hb hx => ?_, I.base.free, fun b o e hx => ?_, I.base.tups, I.base.frzs, I.base.tbls⟩, ⟨m, hn.sameBut hs (Ne.symm (cne x c hc)), fun j y v' e1 e2 e3 => ?_⟩, fun y c' e => ?_, I.free, I.freeC, fun p hp => ?_, tracked ⟨oc, hoc, I.freeC x c hc⟩ hs, by simpa using I.len⟩ ⟨c, hs, .inr hc⟩
    · exact (hs.2 b (Nat.ne_of_lt (Nat.lt_of_lt_of_le (Heap.lt_size e) (I.ok.cab x c hfn hc)))).trans (I.base.keep b o e n hb hx)
    · obtain ⟨sl, e1⟩ := I.base.slot b o e n hb hx
      exact ⟨sl, (hs.2 b (Nat.ne_of_lt (Nat.lt_of_lt_of_le (Heap.lt_size e) (I.ok.cab x c hfn hc)))).trans e1⟩
    · obtain ⟨o', e1⟩ := I.base.there b o e hx
      exact ⟨o', (hs.2 b (Nat.ne_of_lt (Nat.lt_of_lt_of_le (Heap.lt_size e) (I.ok.cab x c hfn hc)))).trans e1⟩
    · by_cases hj : j = i
      · subst hj
        rw [hi] at e1; cases e1
        rw [List.getElem?_set_self hiσ] at e2
        cases e2
        exact ⟨u, r, .inr ⟨.inl hk, c, hc, hc'⟩⟩
      · rw [List.getElem?_set_ne (Ne.symm hj)] at e2
        obtain ⟨u', r', q⟩ := hl j y v' e1 e2 e3
        refine ⟨u', r', ?_⟩
        rcases q with q | ⟨k, c', e, z'⟩
        · exact .inl q
        · refine .inr ⟨k, c', e, z'.sameBut hs ?_⟩
          rintro rfl
          exact hj (nodup_ix hN e1 (I.ok.inj _ _ _ e hc ▸ hi))
    · by_cases hcc : c' = c
      · subst hcc; exact ⟨_, hc'⟩
      · obtain ⟨w2, z2⟩ := I.cell y c' e
        exact ⟨w2, z2.sameBut hs hcc⟩
    · obtain ⟨e, n, ne, nf, d⟩ := I.pin p hp
      refine ⟨(hs.2 p.1 ?_).trans e, n, ne, nf, d⟩
      intro q
      rw [q, hoc] at e
      have q' : oc = p.2 := Option.some.inj e
      exact d w' (by rw [← q']; exact hocd)
theorem store_ok {M : Model} {A : Around} {E : Value → Shared → Prop} {i : Nat} {x : Str} {v : V} {u : Value} {Q : Unit → Shared → Prop} (I : Inv X pins σ H s) (hN : X.N.Nodup) (hi : X.N[i]? = some x) (hx : Loc X.env.scope x) (r : RelV v u)
    (h : ∀ s', Inv X pins (σ.set i (some v)) H s' → Q () s') (hf : X.fn x = true ∨ X.env.scope.names.lookup x = some .local := by first | exact .inl rfl | exact .inr rfl | assumption) : wpAny M A (storeName X.env x u) Q E s :=
  store_ok2 I hN hi hx r (fun s' I' _ => h s' I') hf
/-- behind a call or a block, the state as it is -/
theorem Inv.call' {s' : Shared} {ch : List Addr} (I : Inv X pins σ H s) (ho : s'.os = s.os) (u : Un (frs X.stack) ch H H' s.heap s'.heap) (hok : HOk X.prog X.w H' s'.heap) (hg : AllBare s'.gens)
    (hch : ∀ b ∈ ch, (b ∈ X.ex ∨ X.s₀.heap.objs.size ≤ b) ∧ b ≠ X.env.locals ∧ (∀ x c, X.env.cells.lookup x = some c → c ≠ b) ∧ ∀ p ∈ X.pn ++ pins, p.1 ≠ b) : Inv X pins σ H' s' := by
  obtain ⟨h', g', d', t', o'⟩ := s'
  have e : o' = s.os := ho
  subst e
  exact I.call (g' := g') (t' := t') (d' := d') u hok hg hch
end

/-! ### the judgements -/
/-- an exception: its class, its own dict's address (where it has one), the abstract heap behind it -/
abbrev XK := Value → Option Addr → Hp → Prop
abbrev St := List (Option V)
abbrev VK := V → Hp → Prop
/-- an expression's reading; a test's; an argument list's -/
abbrev TE := St → Hp → VK → Prop
abbrev TT := St → Hp → (Bool → Hp → Prop) → Prop
abbrev TA := St → Hp → (List V → Hp → Prop) → Prop
/-- what is wanted behind a statement -/
structure Ends where
  nx : St → Hp → Prop
  rt : VK
  bk : St → Hp → Prop := fun _ _ => False
  ct : St → Hp → Prop := fun _ _ => False
abbrev TS := Ends → St → Hp → Prop

def EP (X : Cx) (pins : Pn) (σ : St) (Q : VK) (u : Value) (s' : Shared) : Prop := ∃ v H', Inv X pins σ H' s' ∧ RelV v u ∧ Q v H'
def TP (X : Cx) (pins : Pn) (σ : St) (Q : Bool → Hp → Prop) (b : Bool) (s' : Shared) : Prop := ∃ H', Inv X pins σ H' s' ∧ Q b H'
def AP (X : Cx) (pins : Pn) (σ : St) (Q : List V → Hp → Prop) (us : List Value) (s' : Shared) : Prop := ∃ vs H', Inv X pins σ H' s' ∧ Vals vs us ∧ Q vs H'
def SP (X : Cx) (pins : Pn) (D : Ends) (f : Flow) (s' : Shared) : Prop :=
  match f with
  | .next => ∃ σ' H', Inv X pins σ' H' s' ∧ D.nx σ' H'
  | .brk => ∃ σ' H', Inv X pins σ' H' s' ∧ D.bk σ' H'
  | .cont => ∃ σ' H', Inv X pins σ' H' s' ∧ D.ct σ' H'
  | .ret u => ∃ v σ' H', Inv X pins σ' H' s' ∧ RelV v u ∧ D.rt v H'

def PE (X : Cx) (e : Expr) (t : TE) : Prop :=
  ∀ (pins : Pn) (s : Shared) (σ : St) (H : Hp) (Q : VK), Inv X pins σ H s → t σ H Q → wpAny (model X.prog X.w) X.A (eval e X.env) (EP X pins σ Q) X.xe s
def PT (X : Cx) (e : Expr) (t : TT) : Prop :=
  ∀ (pins : Pn) (s : Shared) (σ : St) (H : Hp) (Q : Bool → Hp → Prop), Inv X pins σ H s → t σ H Q → wpAny (model X.prog X.w) X.A (isTrue e X.env (eval e X.env)) (TP X pins σ Q) X.xe s
/-- a test whatever its 'whole' is (and, or) -/
def PW (X : Cx) (e : Expr) (t : TT) : Prop :=
  ∀ (whole : Sem Value) (pins : Pn) (s : Shared) (σ : St) (H : Hp) (Q : Bool → Hp → Prop), Inv X pins σ H s → t σ H Q → wpAny (model X.prog X.w) X.A (isTrue e X.env whole) (TP X pins σ Q) X.xe s
theorem PW.pt {X : Cx} {e : Expr} {t : TT} (h : PW X e t) : PT X e t := h _
/-- an argument list (no star), from the left -/
def PA (X : Cx) (es : List Expr) (t : TA) : Prop :=
  ∀ (pos : Pos) (pins : Pn) (s : Shared) (σ : St) (H : Hp) (Q : List V → Hp → Prop), Inv X pins σ H s → t σ H Q → wpAny (model X.prog X.w) X.A (spliced (backTo pos (starEach es X.env))) (AP X pins σ Q) X.xe s
def PS (X : Cx) (st : Stmt) (t : TS) : Prop :=
  ∀ (pins : Pn) (s : Shared) (σ : St) (H : Hp) (D : Ends), Inv X pins σ H s → t D σ H → wpAny (model X.prog X.w) X.A (exec st X.env) (SP X pins D) X.xe s
def PSs (X : Cx) (st : List Stmt) (t : TS) : Prop :=
  ∀ (pins : Pn) (s : Shared) (σ : St) (H : Hp) (D : Ends), Inv X pins σ H s → t D σ H → wpAny (model X.prog X.w) X.A (execs st X.env) (SP X pins D) X.xe s
/-- weaken the end -/
theorem thn {α : Type} {t : Sem α} {Q Q' : α → Shared → Prop} {M : Model} {A : Around} {E : Value → Shared → Prop} {s : Shared} (h : wpAny M A t Q E s) (hQ : ∀ a s, Q a s → Q' a s) : wpAny M A t Q' E s := wpAny_mono h hQ fun _ _ x => x
end L2

namespace L2
open PySem PySem.Spec PyProof.Rows
section
variable {X : Cx}

/-! ### names and constants -/
def tVar (i : Nat) : TE := fun σ H Q => ∃ v, σ[i]? = some (some v) ∧ Q v H
def tC (v : V) : TE := fun _ H Q => Q v H
theorem pe_var {i : Nat} {x : Str} {pos : Pos} (hN : X.N[i]? = some x) (hv : Vis X.env.scope x) (hd : (x == ("__debug__" : Str)) = false := by decide) (hcd : (x == ("__classdict__" : Str)) = false := by decide) : PE X (.Name x pos) (tVar i) := by
  intro pins s σ H Q I h
  obtain ⟨v, e, h⟩ := h
  obtain ⟨m, hn, hl⟩ := I.loc
  obtain ⟨u, r, l⟩ := hl i x v hN e hv
  have fin : EP X pins σ Q u s := ⟨v, H, I, r, h⟩
  rcases l with ⟨hk, hm⟩ | ⟨hk, c, hc, hcell⟩
  · exact wpAny_Name (wpAny_loadName_local I.ok.kind hk hn hm fin) hd
  · rcases hk with hk | hk
    · exact wpAny_Name (wpAny_loadName_cell I.ok.kind hk hc hcell fin) hd
    · exact wpAny_Name (wpAny_loadName_free I.ok.kind hk hc hcell fin hcd) hd
theorem pe_int {i j pos} : PE X (.Constant (.int i) j pos) (tC (.int i)) := fun _ _ _ H _ I h => wpAny_Constant_int ⟨.int i, H, I.tok _, ⟨_, rfl⟩, h⟩
theorem pe_bl {b j pos} : PE X (.Constant (.bool b) j pos) (tC (.bl b)) := fun _ _ _ H _ I h => Constant_bool ⟨.bl b, H, I, rfl, h⟩
theorem pe_non {j pos} : PE X (.Constant .none j pos) (tC .non) := fun _ _ _ H _ I h => Constant_none ⟨.non, H, I, rfl, h⟩
theorem pe_str {x j pos} : PE X (.Constant (.str x) j pos) (tC (.str x)) := fun _ _ _ H _ I h => Calls.Constant_str ⟨.str x, H, I.tok _, ⟨_, rfl⟩, h⟩

/-- a global name of the def -/
def Gl (X : Cx) (x : Str) : Prop := X.env.kindOf x = some .globalImplicit
theorem ld_glob {E : Value → Shared → Prop} {pins : Pn} {s : Shared} {σ : St} {H : Hp} {x : Str} {u : Value} {pos : Pos} {Q : Value → Shared → Prop} (I : Inv X pins σ H s) (hg : Gl X x) (hm : X.mg x = some u) (h : Q u s)
    (hd : (x == ("__debug__" : Str)) = false := by decide) : wpAny (model X.prog X.w) X.A (eval (.Name x pos) X.env) Q E s :=
  Calls.Name_function_global I.ok.kind hg (Calls.loadGlobal_global (by rw [I.ok.glob]; exact I.mod.glob.keeps I.bk) hm h) hd
theorem ld_blt {E : Value → Shared → Prop} {pins : Pn} {s : Shared} {σ : St} {H : Hp} {x : Str} {u : Value} {pos : Pos} {Q : Value → Shared → Prop} (I : Inv X pins σ H s) (hg : Gl X x) (hm : X.mg x = none) (hv : bootBuiltins x = some u) (h : Q u s)
    (hn : x ≠ "__name__" := by decide) (hd : (x == ("__debug__" : Str)) = false := by decide) : wpAny (model X.prog X.w) X.A (eval (.Name x pos) X.env) Q E s := by
  obtain ⟨mb, h1, h2⟩ := I.mod.blt
  exact Calls.Name_function_global I.ok.kind hg (Calls.loadGlobal_builtin (by rw [I.ok.glob]; exact I.mod.glob.keeps I.bk) hm (by rw [I.ok.blt]; exact h1.keeps I.bk) ((h2 x hn).trans hv) h) hd
/-- a module's constant, a class, a function, as a value -/
theorem pe_glob {x : Str} {v : V} {u : Value} {pos : Pos} (hg : Gl X x) (hm : X.mg x = some u) (r : RelV v u) (hd : (x == ("__debug__" : Str)) = false := by decide) : PE X (.Name x pos) (tC v) :=
  fun _ _ _ H _ I h => ld_glob I hg hm ⟨v, H, I, r, h⟩ hd
theorem pe_bltn {x : Str} {v : V} {u : Value} {pos : Pos} (hg : Gl X x) (hm : X.mg x = none) (hv : bootBuiltins x = some u) (r : RelV v u) (hn : x ≠ "__name__" := by decide) (hd : (x == ("__debug__" : Str)) = false := by decide) : PE X (.Name x pos) (tC v) :=
  fun _ _ _ H _ I h => ld_blt I hg hm hv ⟨v, H, I, r, h⟩ hn hd

/-! ### arithmetic -/
variable {a b : Expr} {ta tb : TE} {pos : Pos}
/-! ### comparisons -/
def PC (X : Cx) (op : CmpOp) (a b : Expr) (t : TE) : Prop :=
  ∀ (pins : Pn) (s : Shared) (σ : St) (H : Hp) (Q : VK), Inv X pins σ H s → t σ H Q →
    wpAny (model X.prog X.w) X.A (eval a X.env) (fun v s₁ => wpAny (model X.prog X.w) X.A (eval b X.env) (fun u s₂ => wpAny (model X.prog X.w) X.A (compareOp op v u) (EP X pins σ Q) X.xe s₂) X.xe s₁) X.xe s
theorem nobehind (b : Expr) {op : CmpOp} (h : op ≠ .In) (h2 : op ≠ .NotIn) : behindInMarks op b = false := by
  have e1 : (op == CmpOp.In) = false := by cases op <;> first | rfl | exact absurd rfl h
  have e2 : (op == CmpOp.NotIn) = false := by cases op <;> first | rfl | exact absurd rfl h2
  cases b <;> simp [behindInMarks, e1, e2]
/-- is None -/
def tIsN (ta : TE) : TE := fun σ H Q => ta σ H fun x H1 => Q (.bl (decide (x = .non))) H1
def tNotN (ta : TE) : TE := fun σ H Q => ta σ H fun x H1 => Q (.bl (!decide (x = .non))) H1
theorem RelV.none_iff {x : V} {v : Value} (r : RelV x v) : (v == Value.none) = decide (x = .non) := by
  cases x with
  | non => cases r; rfl
  | bl _ => cases r; rfl
  | int _ => obtain ⟨t, rfl⟩ := r; rfl
  | str _ => obtain ⟨t, rfl⟩ := r; rfl
  | byt _ => obtain ⟨t, rfl⟩ := r; rfl
  | flt _ => obtain ⟨t, rfl⟩ := r; rfl
  | ref _ => cases r; rfl
  | ty _ => cases r; rfl
theorem pc_isN {j pos'} (ha : PE X a ta) : PC X .Is a (.Constant .none j pos') (tIsN ta) := by
  intro pins s σ H Q I h
  refine thn (ha pins s σ H _ I h) fun v s1 ⟨x, H1, I1, r1, q1⟩ => ?_
  exact Constant_none (is_none_gen ⟨.bl _, H1, I1, by rw [r1.none_iff]; rfl, q1⟩)
theorem pc_notN {j pos'} (ha : PE X a ta) : PC X .IsNot a (.Constant .none j pos') (tNotN ta) := by
  intro pins s σ H Q I h
  refine thn (ha pins s σ H _ I h) fun v s1 ⟨x, H1, I1, r1, q1⟩ => ?_
  exact Constant_none (isnot_none_gen ⟨.bl _, H1, I1, by rw [r1.none_iff]; rfl, q1⟩)
/-- a comparison as a value, as a test -/
def tB (t : TE) : TT := fun σ H Q => t σ H fun x H1 => ∃ c, x = .bl c ∧ Q c H1
theorem pe_cmp {op : CmpOp} {t : TE} (h : PC X op a b t) (h1 : behindInMarks op b = false := by first | exact nobehind _ (by decide) (by decide) | rfl) : PE X (.Compare a [op] [b] pos) t := fun pins s σ H Q I hw => wpAny_Compare1 (h pins s σ H Q I hw) h1
theorem pt_cmp {op : CmpOp} {t : TE} (h : PC X op a b t) (h1 : behindInMarks op b = false := by first | exact nobehind _ (by decide) (by decide) | rfl) : PT X (.Compare a [op] [b] pos) (tB t) := by
  intro pins s σ H Q I hw
  refine wpAny_isTrue_Compare1 (thn (h pins s σ H _ I hw) fun v s1 h1 => thn h1 fun u s2 h2 => thn h2 fun c s3 ⟨x, H1, I1, r1, q1⟩ => ?_) h1
  obtain ⟨d, rfl, q⟩ := q1
  cases r1
  exact wpAny_truthy_bool ⟨H1, I1, q⟩
/-- an expression whose value is a bool, as a test -/
theorem pt_val {e : Expr} {t : TE} (h : PE X e t) (he : ∀ whole, isTrue e X.env whole = (do let v ← whole; standAt e.pos; holding [v] (truthy v)) := by intro _; rfl) : PT X e (tB t) := by
  intro pins s σ H Q I hw
  refine isTrue_plain (thn (h pins s σ H _ I hw) fun v s1 ⟨x, H1, I1, r1, q1⟩ => ?_) (he _)
  obtain ⟨d, rfl, q⟩ := q1
  cases r1
  exact wpAny_truthy_bool ⟨H1, I1, q⟩

/-! ### and, or, not -/
variable {tA tB' : TT} {rest : List Expr}
def tAnd (t u : TT) : TT := fun σ H Q => t σ H fun c H1 => if c = true then u σ H1 Q else Q false H1
def tOr (t u : TT) : TT := fun σ H Q => t σ H fun c H1 => if c = true then Q true H1 else u σ H1 Q
def tNot (t : TT) : TT := fun σ H Q => t σ H fun c H1 => Q (!c) H1
theorem pw_and1 (ha : PT X a tA) : PW X (.BoolOp .And [a] pos) tA := by
  intro wh pins s σ H Q I h
  refine isTrue_and (thn (ha pins s σ H Q I h) fun c s1 e => ?_)
  cases c with
  | true => exact isTrue_and_nil e
  | false => exact e
theorem pw_or1 (ha : PT X a tA) : PW X (.BoolOp .Or [a] pos) tA := by
  intro wh pins s σ H Q I h
  refine isTrue_or (thn (ha pins s σ H Q I h) fun c s1 e => ?_)
  cases c with
  | false => exact isTrue_or_nil e
  | true => exact e
theorem pw_and (ha : PT X a tA) (hb : PW X (.BoolOp .And (b :: rest) pos) tB') : PW X (.BoolOp .And (a :: b :: rest) pos) (tAnd tA tB') := by
  intro wh pins s σ H Q I h
  refine isTrue_and (thn (ha pins s σ H _ I h) fun c s1 ⟨H1, I1, q1⟩ => ?_)
  cases c with
  | true => exact hb wh pins s1 σ H1 Q I1 q1
  | false => exact ⟨H1, I1, q1⟩
theorem pw_or (ha : PT X a tA) (hb : PW X (.BoolOp .Or (b :: rest) pos) tB') : PW X (.BoolOp .Or (a :: b :: rest) pos) (tOr tA tB') := by
  intro wh pins s σ H Q I h
  refine isTrue_or (thn (ha pins s σ H _ I h) fun c s1 ⟨H1, I1, q1⟩ => ?_)
  cases c with
  | true => exact ⟨H1, I1, q1⟩
  | false => exact hb wh pins s1 σ H1 Q I1 q1
theorem pt_not (ha : PT X a tA) : PT X (.UnaryOp .Not a pos) (tNot tA) := by
  intro pins s σ H Q I h
  exact isTrue_not (ha pins s σ H (fun c H1 => Q (!c) H1) I h)
/-- .. as values (bools) -/
def tAndV (ta tb : TE) : TE := fun σ H Q => ta σ H fun x H1 => ∃ c, x = .bl c ∧ if c = true then tb σ H1 Q else Q (.bl false) H1
def tNotV (ta : TE) : TE := fun σ H Q => ta σ H fun x H1 => ∃ c, x = .bl c ∧ Q (.bl (!c)) H1
theorem pe_one {op} {t : TE} (h : PE X a t) : PE X (.BoolOp op [a] pos) t := fun pins s σ H Q I hw => BoolOp_one (h pins s σ H Q I hw)
theorem pe_and (ha : PE X a ta) (hb : PE X (.BoolOp .And (b :: rest) pos) tb) : PE X (.BoolOp .And (a :: b :: rest) pos) (tAndV ta tb) := by
  intro pins s σ H Q I h
  refine BoolOp_and (thn (ha pins s σ H _ I h) fun v s1 ⟨x, H1, I1, r1, q1⟩ => ?_)
  obtain ⟨c, rfl, q1⟩ := q1
  cases r1
  refine wpAny_truthy_bool ?_
  cases c with
  | true => exact hb pins s1 σ H1 Q I1 q1
  | false => exact ⟨.bl false, H1, I1, rfl, q1⟩
theorem pe_not (ha : PE X a ta) : PE X (.UnaryOp .Not a pos) (tNotV ta) := by
  intro pins s σ H Q I h
  refine UnaryOp_ (thn (ha pins s σ H _ I h) fun v s1 ⟨x, H1, I1, r1, q1⟩ => ?_)
  obtain ⟨c, rfl, q1⟩ := q1
  cases r1
  exact not_of (wpAny_truthy_bool ⟨.bl (!c), H1, I1, rfl, q1⟩)
end
end L2

namespace L2
open PySem PySem.Spec PyProof.Rows

/-! ### a list, a tuple that is read: tracked, frozen, or an object of the module -/
def SqL (K : Fg) (H : Hp) (a : Addr) (xs : List V) : Prop :=
  Rd H a (.lst xs) ∨
    ∃ (o : Obj) (its : Array Value) (n : Nat), K.lookup a = some o ∧ o.cls = .type "list" ∧ o.dict = none ∧ o.data = .seq its n ∧ its.size ≤ sizeLine ∧ Vals xs its.toList
def SqT (K : Fg) (H : Hp) (a : Addr) (xs : List V) : Prop :=
  Rd H a (.tup xs) ∨
    ∃ (o : Obj) (its : Array Value) (n : Nat), K.lookup a = some o ∧ o.cls = .type "tuple" ∧ o.data = .seq its n ∧ its.size ≤ sizeLine ∧ Vals xs its.toList
def absV : Value → Option V
  | .none => some .non
  | .bool b => some (.bl b)
  | .int i _ => some (.int i)
  | .str x _ => some (.str x)
  | .bytes b _ => some (.byt b)
  | .float b _ => some (.flt b)
  | .ref a => some (.ref a)
  | .type n => some (.ty n)
  | _ => none
theorem RelV.abs {x : V} {u : Value} (r : RelV x u) : absV u = some x := by
  cases x with
  | non => cases r; rfl
  | bl _ => cases r; rfl
  | int _ => obtain ⟨t, rfl⟩ := r; rfl
  | str _ => obtain ⟨t, rfl⟩ := r; rfl
  | byt _ => obtain ⟨t, rfl⟩ := r; rfl
  | flt _ => obtain ⟨t, rfl⟩ := r; rfl
  | ref _ => cases r; rfl
  | ty _ => cases r; rfl
theorem RelV.inj {x y : V} {u : Value} (r : RelV x u) (q : RelV y u) : x = y := Option.some.inj (r.abs.symm.trans q.abs)
theorem Vals.inj : ∀ {xs ys : List V} {us : List Value}, Vals xs us → Vals ys us → xs = ys
  | _, _, _, .nil, .nil => rfl
  | _, _, _, .cons r t, .cons r' t' => by rw [r.inj r', Vals.inj t t']
section
variable {X : Cx} {pins : Pn} {σ : St} {H : Hp} {s : Shared} {a : Addr} {xs ys : List V}
theorem SqL.of {K : Fg} (h : H a = some (.lst xs)) : SqL K H a xs := .inl (.inl h)
theorem SqT.of {K : Fg} (h : H a = some (.tup xs)) : SqT K H a xs := .inl (.inl h)
theorem Inv.list (I : Inv X pins σ H s) (h : SqL X.K H a xs) : ∃ its : List Value, Vals xs its ∧ PlainL s.heap a its.toArray ∧ xs.length ≤ sizeLine := by
  rcases h with h | ⟨o, its, n, hk, hc, hd, hs, hz, r⟩
  · obtain ⟨z, its, n, r, e⟩ := h.ok I.hok
    exact ⟨its, r, ⟨_, n, e, rfl, rfl, rfl⟩, z⟩
  · refine ⟨its.toList, r, ⟨o, n, I.kIn a o hk, hc, hd, by simpa using hs⟩, ?_⟩
    have e := r.length
    simp only [Array.length_toList] at e
    omega
theorem Inv.tuple (I : Inv X pins σ H s) (h : SqT X.K H a xs) : ∃ its : List Value, Vals xs its ∧ IsTup s.heap a its.toArray ∧ xs.length ≤ sizeLine := by
  rcases h with h | ⟨o, its, n, hk, hc, hs, hz, r⟩
  · obtain ⟨z, its, r, p⟩ := h.ok I.hok
    exact ⟨its, r, p, z⟩
  · refine ⟨its.toList, r, ⟨o, I.kIn a o hk, hc, n, by simpa using hs⟩, ?_⟩
    have e := r.length
    simp only [Array.length_toList] at e
    omega
theorem Inv.list_inj (I : Inv X pins σ H s) (h : SqL X.K H a xs) (h' : SqL X.K H a ys) : xs = ys := by
  obtain ⟨its, r, ⟨o, n, e, _, _, d⟩, _⟩ := I.list h
  obtain ⟨its', r', ⟨o', n', e', _, _, d'⟩, _⟩ := I.list h'
  rw [e] at e'; cases e'
  rw [d] at d'
  injection d' with d1 _
  have : its = its' := by simpa using congrArg Array.toList d1
  subst this
  exact r.inj r'
end

/-! ### another wish about exceptions -/
abbrev Cx.wish (X : Cx) (E : Value → Shared → Prop) : Cx := { X with xe := E }
/-- no exception leaves -/
abbrev Cx.nox (X : Cx) : Cx := X.wish fun _ _ => False
theorem Cx.Ok.wish {X : Cx} (ok : X.Ok) (E : Value → Shared → Prop) : (X.wish E).Ok :=
  ⟨ok.mod, ok.kind, ok.glob, ok.blt, ok.above, ok.inj, ok.has, ok.cab, ok.hd, ok.frames, ok.stk, ok.exf, ok.bs, ok.bsz, ok.noex, ok.exfs, ok.funs, ok.frf⟩
theorem Cx.Ok.unwish {X : Cx} {E : Value → Shared → Prop} (ok : (X.wish E).Ok) : X.Ok :=
  ⟨ok.mod, ok.kind, ok.glob, ok.blt, ok.above, ok.inj, ok.has, ok.cab, ok.hd, ok.frames, ok.stk, ok.exf, ok.bs, ok.bsz, ok.noex, ok.exfs, ok.funs, ok.frf⟩
section
variable {X : Cx} {pins : Pn} {σ : St} {H : Hp} {s : Shared} {E : Value → Shared → Prop}
theorem Inv.wish (I : Inv X pins σ H s) (E : Value → Shared → Prop) : Inv (X.wish E) pins σ H s := ⟨I.ok.wish E, I.os, I.bare, I.base, I.loc, I.cell, I.free, I.freeC, I.pin, I.hok, I.len⟩
theorem Inv.unwish (I : Inv (X.wish E) pins σ H s) : Inv X pins σ H s := ⟨I.ok.unwish, I.os, I.bare, I.base, I.loc, I.cell, I.free, I.freeC, I.pin, I.hok, I.len⟩
theorem SP.unwish {D : Ends} {f : Flow} {s' : Shared} (h : SP (X.wish E) pins D f s') : SP X pins D f s' := by
  cases f with
  | next => obtain ⟨σ', H', I, q⟩ := h; exact ⟨σ', H', I.unwish, q⟩
  | brk => obtain ⟨σ', H', I, q⟩ := h; exact ⟨σ', H', I.unwish, q⟩
  | cont => obtain ⟨σ', H', I, q⟩ := h; exact ⟨σ', H', I.unwish, q⟩
  | ret u => obtain ⟨v, σ', H', I, r, q⟩ := h; exact ⟨v, σ', H', I.unwish, r, q⟩
theorem PSs.nox {st : List Stmt} {t : TS} (h : PSs X.nox st t) : PSs X st t := fun pins s σ H D I hw =>
  wpAny_mono (h pins s σ H D (I.wish _) hw) (fun _ _ q => q.unwish) fun _ _ z => False.elim z
end

/-! ### blocks and small statements -/
section
variable {X : Cx} {st : Stmt} {rest : List Stmt} {t u : TS} {e : Expr} {te : TE} {pos : Pos}
def tNext : TS := fun D σ H => D.nx σ H
def tSeq (t u : TS) : TS := fun D σ H => t { D with nx := u D } σ H
theorem pss_nil : PSs X [] tNext := fun _ _ σ H _ I h => wpAny_execs_nil ⟨σ, H, I, h⟩
theorem pss_cons (h1 : PS X st t) (h2 : PSs X rest u) : PSs X (st :: rest) (tSeq t u) := by
  intro pins s σ H D I h
  refine wpAny_execs_cons (thn (h1 pins s σ H { D with nx := u D } I h) fun f s1 q => ?_)
  cases f with
  | next =>
    obtain ⟨σ', H', I', q⟩ := q
    exact h2 pins s1 σ' H' D I' q
  | ret v => exact q
  | brk => exact q
  | cont => exact q
theorem pss_one (h1 : PS X st t) : PSs X [st] t := by
  intro pins s σ H D I h
  refine wpAny_execs_cons (thn (h1 pins s σ H D I h) fun f s1 q => ?_)
  cases f with
  | next => exact wpAny_execs_nil q
  | ret v => exact q
  | brk => exact q
  | cont => exact q
/-- in a def's body nothing is shown -/
theorem Inv.quiet {pins : Pn} {σ : St} {H : Hp} {s : Shared} (I : Inv X pins σ H s) : interactive X.env = false := by simp [interactive, I.ok.kind]
/-- an expression whose value is dropped -/
def tDrop (te : TE) : TS := fun D σ H => te σ H fun _ H1 => D.nx σ H1
theorem ps_expr (he : PE X e te) (hs : swapsWith e none pos.line X.env = pure false := by rfl) : PS X (.Expr e pos) (tDrop te) := by
  intro pins s σ H D I h
  exact wpAny_Expr_any (thn (he pins s σ H _ I h) fun v s1 ⟨x, H1, I1, r1, q1⟩ => ⟨σ, H1, I1, q1⟩) I.quiet hs
def tRet (te : TE) : TS := fun D σ H => te σ H D.rt
theorem ps_ret (he : PE X e te) : PS X (.Return (some e) pos) (tRet te) := by
  intro pins s σ H D I h
  exact wpAny_Return_some (thn (he pins s σ H _ I h) fun v s1 ⟨x, H1, I1, r1, q1⟩ => ⟨x, σ, H1, I1, r1, q1⟩)
def tIfS (c : TT) (t u : TS) : TS := fun D σ H => c σ H fun b H1 => if b = true then t D σ H1 else u D σ H1
theorem ps_if {c : Expr} {a b : List Stmt} {tc : TT} (hc : PT X c tc) (ha : PSs X a t) (hb : PSs X b u) : PS X (.If c a b pos) (tIfS tc t u) := by
  intro pins s σ H D I h
  refine wpAny_If (thn (hc pins s σ H _ I h) fun d s1 ⟨H1, I1, q1⟩ => ?_)
  cases d with
  | true => exact ha pins s1 σ H1 D I1 q1
  | false => exact hb pins s1 σ H1 D I1 q1
/-- code that the proof never comes to -/
def tNever : TS := fun _ _ _ => False
theorem ps_never : PS X st tNever := fun _ _ _ _ _ _ h => h.elim
theorem pss_never {sts : List Stmt} : PSs X sts tNever := fun _ _ _ _ _ _ h => h.elim
end

/-! ### targets -/
abbrev TG := V → St → Hp → (St → Hp → Prop) → Prop
abbrev TGs := List V → St → Hp → (St → Hp → Prop) → Prop
def PG (X : Cx) (target : Expr) (t : TG) : Prop :=
  ∀ (pins : Pn) (s : Shared) (σ : St) (H : Hp) (v : V) (u : Value) (Q : St → Hp → Prop), Inv X pins σ H s → RelV v u → t v σ H Q →
    wpAny (model X.prog X.w) X.A (assign target X.env u) (fun _ s' => ∃ σ' H', Inv X pins σ' H' s' ∧ Q σ' H') X.xe s
/-- several targets, one after another -/
def PGs (X : Cx) (ts : List Expr) (t : TGs) : Prop :=
  ∀ (pins : Pn) (s : Shared) (σ : St) (H : Hp) (vs : List V) (us : List Value) (Q : St → Hp → Prop), Inv X pins σ H s → Vals vs us → t vs σ H Q →
    wpAny (model X.prog X.w) X.A (assignInOrder ((assignEach ts X.env).map (·.2)) us) (fun _ s' => ∃ σ' H', Inv X pins σ' H' s' ∧ Q σ' H') X.xe s
/-- o[i] = v, by values -/
abbrev TSet := V → V → V → Hp → (Hp → Prop) → Prop
def PSet (X : Cx) (t : TSet) : Prop :=
  ∀ (pins : Pn) (s : Shared) (σ : St) (H : Hp) (o i v : V) (ov iv u : Value) (Q : Hp → Prop), Inv X pins σ H s → RelV o ov → RelV i iv → RelV v u → t o i v H Q →
    wpAny (model X.prog X.w) X.A (setItem ov iv u) (fun _ s' => ∃ H', Inv X pins σ H' s' ∧ Q H') X.xe s
section
variable {X : Cx} {pos : Pos}
def gName (i : Nat) : TG := fun v σ H Q => Q (σ.set i (some v)) H
theorem pg_name {i : Nat} {x : Str} (hN : X.N.Nodup) (hi : X.N[i]? = some x) (hx : Loc X.env.scope x) (hf : X.fn x = true ∨ X.env.scope.names.lookup x = some .local := by first | exact .inl rfl | exact .inr rfl | assumption) : PG X (.Name x pos) (gName i) := by
  intro pins s σ H v u Q I r h
  exact wpAny_assign_Name (store_ok I hN hi hx r (fun s' I' => ⟨_, H, I', h⟩) hf)
def gNil : TGs := fun vs σ H Q => vs = [] ∧ Q σ H
def gCons (t : TG) (u : TGs) : TGs := fun vs σ H Q => ∃ v r, vs = v :: r ∧ t v σ H fun σ' H' => u r σ' H' Q
theorem pgs_nil : PGs X [] gNil := by
  intro pins s σ H vs us Q I r h
  obtain ⟨e, h⟩ := h
  subst e
  cases r
  exact assignInOrder_nil ⟨σ, H, I, h⟩
theorem pgs_cons {e : Expr} {es : List Expr} {t : TG} {u : TGs} (h1 : PG X e t) (h2 : PGs X es u)
    (hs : (assignEach (e :: es) X.env).map (·.2) = assign e X.env :: (assignEach es X.env).map (·.2) := by rfl) : PGs X (e :: es) (gCons t u) := by
  intro pins s σ H vs us Q I r h
  obtain ⟨v, vr, e1, h⟩ := h
  subst e1
  cases r with
  | cons r rr =>
    rw [hs]
    refine assignInOrder_cons (thn (h1 pins s σ H _ _ _ I r h) fun _ s1 ⟨σ1, H1, I1, q1⟩ => ?_)
    exact h2 pins s1 σ1 H1 _ _ Q I1 rr q1
/-- (a, b, ..) = a tuple of that length -/
def gTup (K : Fg) (n : Nat) (t : TGs) : TG := fun v σ H Q => ∃ a xs, v = .ref a ∧ SqT K H a xs ∧ xs.length = n ∧ t xs σ H Q
theorem pg_tup {es : List Expr} {k : Nat} {t : TGs} {n : Nat} (hc : X.calm = true) (h : PGs X es t)
    (hn : (assignEach es X.env).length = n := by rfl) (hst : (assignEach es X.env).findIdx? (·.1) = none := by rfl) : PG X (.Tuple es k pos) (gTup X.K n t) := by
  intro pins s σ H v u Q I r hw
  obtain ⟨a, xs, e1, hq, hl, hw⟩ := hw
  subst e1
  cases r
  obtain ⟨its, rv, ht, hz⟩ := I.tuple hq
  refine assign_Tuple_tuple (I.ok.hd hc) ht (by simp [hn, ← hl, rv.length]) hst fun h' hx => ?_
  have I1 : Inv X pins σ H { s with heap := h' } := I.kept (t' := s.toks) fun b o e => hx b o (Nat.ne_of_lt (Heap.lt_size e)) e
  exact h pins _ σ H xs _ Q I1 (by simpa using rv) hw
/-- o[i] = .. -/
def gSub (to ti : TE) (t : TSet) : TG := fun v σ H Q => to σ H fun o H1 => ti σ H1 fun i H2 => t o i v H2 fun H3 => Q σ H3
theorem pg_sub {o i : Expr} {to ti : TE} {t : TSet} (ho : PE X o to) (hi : PE X i ti) (hs : PSet X t)
    (ha : ∀ v, assign (.Subscript o i pos) X.env v = (do
      let ov ← holding [v] (eval o X.env)
      let iv ← holding [v, ov] (eval i X.env)
      standAt pos
      holding [v, ov, iv] (setItem ov iv v)
      release [v, ov, iv] []) := by intro _; rfl) : PG X (.Subscript o i pos) (gSub to ti t) := by
  intro pins s σ H v u Q I r h
  rw [ha]
  refine wpAny_bind (wpAny_holding (thn (ho pins s σ H _ I h) fun ov s1 ⟨x, H1, I1, r1, q1⟩ => ?_))
  refine wpAny_bind (wpAny_holding (thn (hi pins s1 σ H1 _ I1 q1) fun iv s2 ⟨y, H2, I2, r2, q2⟩ => ?_))
  refine wpAny_bind (wpAny_standAt (wpAny_bind (wpAny_holding (thn (hs pins s2 σ H2 x y v ov iv u _ I2 r1 r2 r q2) fun _ s3 ⟨H3, I3, q3⟩ => ?_))))
  exact wpAny_release ⟨σ, H3, I3, q3⟩
/-- target = value -/
def tAsg (te : TE) (g : TG) : TS := fun D σ H => te σ H fun x H1 => g x σ H1 D.nx
theorem ps_asg {tg e : Expr} {te : TE} {g : TG} (he : PE X e te) (hg : PG X tg g) (hs : swapsWithSole [tg] e pos.line X.env = pure false := by rfl) (hw : swappedStores [tg] e X.env = pure none := by rfl)
    (h1 : (assignEach [tg] X.env).map (·.2) = [assign tg X.env] := by rfl) : PS X (.Assign [tg] e pos) (tAsg te g) := by
  intro pins s σ H D I h
  refine wpAny_Assign_stores (thn (he pins s σ H _ I h) fun v s1 ⟨x, H1, I1, r1, q1⟩ => ?_) hs hw
  rw [h1]
  exact thn (hg pins s1 σ H1 x v _ I1 r1 q1) fun _ s2 q => q
/-- name = value -/
theorem ps_set {i : Nat} {x : Str} {e : Expr} {te : TE} {pos' : Pos} (hN : X.N.Nodup) (hi : X.N[i]? = some x) (hx : Loc X.env.scope x) (he : PE X e te) (hs : swapsWith e (some (.Name x pos')) pos.line X.env = pure false := by rfl) (hf : X.fn x = true ∨ X.env.scope.names.lookup x = some .local := by first | exact .inl rfl | exact .inr rfl | assumption) :
    PS X (.Assign [.Name x pos'] e pos) (tAsg te (gName i)) := by
  intro pins s σ H D I h
  refine wpAny_Assign_Name (thn (he pins s σ H _ I h) fun v s1 ⟨y, H1, I1, r1, q1⟩ => ?_) hs
  exact store_ok I1 hN hi hx r1 (fun s2 I2 => ⟨_, H1, I2, q1⟩) hf
end

/-! ### while -/
section
variable {X : Cx} {pos : Pos}
end

/-! ### what a loop or a comprehension walks -/
/-- at turn i: it yields x (the heap may grow), or it stops -/
structure It where
  go : Nat → Hp → Prop
  yld : Nat → Hp → V → Hp → Prop
  stop : Nat → Hp → Prop
/-- the iterator's own objects may turn: they are not the frame's, not pinned, younger than the entry (or a comprehension's own) -/
def FpOk (X : Cx) (pins : Pn) (H : Hp) (b : Addr) : Prop :=
  H b = none ∧ b ≠ X.env.locals ∧ b ∉ X.fs ∧ (b ∈ X.ex ∨ X.s₀.heap.objs.size ≤ b) ∧ (∀ x c, X.env.cells.lookup x = some c → c ≠ b) ∧ ∀ p ∈ X.pn ++ pins, p.1 ≠ b
theorem Inv.fpOk {X : Cx} {pins : Pn} {σ : St} {H H' : Hp} {s : Shared} {b : Addr} (I : Inv X pins σ H s) (hb : s.heap.objs.size ≤ b) (hn : H' b = none) : FpOk X pins H' b := by
  refine ⟨hn, Nat.ne_of_gt (Nat.lt_of_lt_of_le I.lt hb), I.nofs hb, .inr (Nat.le_trans I.sz hb), fun x c e z => ?_, fun p hp z => ?_⟩
  · obtain ⟨v, q⟩ := I.cell x c e
    exact absurd (Nat.lt_of_lt_of_le q.lt (by rw [z]; exact hb)) (Nat.lt_irrefl _)
  · exact absurd (Nat.lt_of_lt_of_le (Heap.lt_size (I.pin p hp).1) (by rw [z]; exact hb)) (Nat.lt_irrefl _)
structure Turn (P : Program) (w : World) (K : Fg) (tg : Expr) (J : It) (fp : List Addr) (it : Addr) (tn : Nat → Heap → Prop) : Prop where
  mem : it ∈ fp
  obj : ∀ i h, tn i h → ∀ b ∈ fp, ∃ o, h.get? b = some o ∧ ∀ v, o.data ≠ .cell v
  keep : ∀ i h h', tn i h → (∀ b ∈ fp, ∀ o, h.get? b = some o → h'.get? b = some o) → tn i h'
  item : ∀ (X : Cx), X.prog = P → X.w = w → X.K = K → X.calm = true → ∀ (i : Nat) (pins : Pn) (s : Shared) (σ : St) (H : Hp) (E : Value → Shared → Prop), Inv X pins σ H s → (∀ b ∈ fp, FpOk X pins H b) → tn i s.heap → J.go i H →
    wpAny (model P w) X.A (pyNext (.ref it)) (fun r s1 => ∃ u, r = some u ∧
      wpAny (model P w) X.A (letOwnedTupleGo tg (.ref it) u) (fun _ s2 => ∃ x H', Inv X pins σ H' s2 ∧ RelV x u ∧ J.yld i H x H' ∧ tn (i + 1) s2.heap ∧ ∀ b ∈ fp, H' b = none) E s1) E s
  done : ∀ (X : Cx), X.prog = P → X.w = w → X.K = K → X.calm = true → ∀ (i : Nat) (pins : Pn) (s : Shared) (σ : St) (H : Hp) (E : Value → Shared → Prop), Inv X pins σ H s → (∀ b ∈ fp, FpOk X pins H b) → tn i s.heap → J.stop i H →
    wpAny (model P w) X.A (pyNext (.ref it)) (fun r s1 => r = none ∧ Inv X pins σ H s1) E s
  self : ∀ (A : Around) (i : Nat) (s : Shared) (Q : Value → Shared → Prop) (E : Value → Shared → Prop), tn i s.heap → Q (.ref it) s → wpAny (model P w) A (pyIter (.ref it)) Q E s
abbrev TI := St → Hp → (It → Hp → Prop) → Prop
/-- an iterator has come -/
def PIE (X : Cx) (pins : Pn) (σ : St) (tg : Expr) (R : It → Hp → Prop) (itv : Value) (s2 : Shared) : Prop :=
  ∃ (it : Addr) (fp : List Addr) (tn : Nat → Heap → Prop) (J : It) (H' : Hp), itv = .ref it ∧ Inv X pins σ H' s2 ∧ Turn X.prog X.w X.K tg J fp it tn ∧ tn 0 s2.heap ∧ (∀ b ∈ fp, FpOk X pins H' b) ∧ R J H'
def PI (X : Cx) (tg iter : Expr) (wi : TI) : Prop :=
  ∀ (pins : Pn) (s : Shared) (σ : St) (H : Hp) (R : It → Hp → Prop), Inv X pins σ H s → wi σ H R →
    wpAny (model X.prog X.w) X.A (eval iter X.env) (fun v s1 => wpAny (model X.prog X.w) X.A (pyIter v) (PIE X pins σ tg R) X.xe s1) X.xe s

/-- the step ahead of the store is nothing for an iterator that keeps no tuple -/
theorem go_of {M : Model} {A : Around} {E : Value → Shared → Prop} {s : Shared} {tg : Expr} {it : Addr} {u : Value} {o : Obj} {n : String} {vs : Array Value} {Q : Unit → Shared → Prop} (ho : s.heap.get? it = some o) (hc : o.cls = .type n) (hd : o.data = .fields vs)
    (hn : ["enumerate", "zip", "dict_itemiterator", "dict_reverseitemiterator", "odict_iterator", "itertools.zip_longest", "itertools.pairwise"].contains n = false) (hQ : Q () s) : wpAny M A (letOwnedTupleGo tg (.ref it) u) Q E s := by
  unfold letOwnedTupleGo
  cases tg <;> first
    | exact wpAny_pure hQ
    | (cases u <;> first
        | exact wpAny_pure hQ
        | (refine wpAny_bind (wpAny_load ho ?_)
           rw [hc, hd]
           show wpAny M A (if (["enumerate", "zip", "dict_itemiterator", "dict_reverseitemiterator", "odict_iterator", "itertools.zip_longest", "itertools.pairwise"].contains n && vs[0]? == some (rawInt _)) = true then _ else _) Q E s
           rw [if_neg (by intro h; rw [hn, Bool.false_and] at h; cases h)]
           exact wpAny_pure hQ))

/-- the list at a, as it stands at each turn (a loop may append to it) -/
def Itl (K : Fg) (a : Addr) : It :=
  ⟨fun i H => ∃ xs x, SqL K H a xs ∧ xs[i]? = some x, fun i H x H' => H' = H ∧ ∀ xs, SqL K H a xs → xs[i]? = some x, fun i H => ∃ xs, SqL K H a xs ∧ xs.length ≤ i⟩
/-- lo, lo + 1, .. (n of them) -/
def Itr (lo : Int) (n : Nat) : It := ⟨fun i _ => i < n, fun i H x H' => H' = H ∧ x = .int (lo + i), fun i _ => n ≤ i⟩
theorem turn_list {P : Program} {w : World} {K : Fg} {tg : Expr} (a it : Addr) : Turn P w K tg (Itl K a) [it] it (fun i h => h.IsListIter it a i) where
  mem := by simp
  obj := fun i h st b hb => by
    have e : b = it := by simpa using hb
    subst e
    obtain ⟨o, e, c, d⟩ := st
    exact ⟨o, e, fun v z => by rw [d] at z; cases z⟩
  keep := fun i h h' st k => st.at fun o e => k it (by simp) o e
  item := by
    intro X hP hw hK hc i pins s σ H E I hf st hg
    subst hP hw hK
    obtain ⟨xs, x, hq, hx⟩ := hg
    obtain ⟨its, rv, p, hz⟩ := I.list hq
    obtain ⟨u, hu, ru⟩ := rv.get hx
    obtain ⟨f0, f1, f2, f3, f4, f5⟩ := hf it (by simp)
    refine wpAny_pyNext_list_item st p.isList (x := u) (by simpa using hu) fun h' st' sb => ?_
    have I1 : Inv X pins σ H { s with heap := h' } := I.turned (t' := s.toks) (fun b o hb e => (sb.2 b hb).trans e) f0 f1 f3 f4 f5
    obtain ⟨o, e, c, d⟩ := id st'
    exact ⟨u, rfl, go_of (s := { s with heap := h' }) e c d (by decide) ⟨x, H, I1, ru, ⟨rfl, fun ys hy => by rw [I.list_inj hy hq]; exact hx⟩, st', fun b hb => (hf b hb).1⟩⟩
  done := by
    intro X hP hw hK hc i pins s σ H E I hf st hg
    subst hP hw hK
    obtain ⟨xs, hq, hx⟩ := hg
    obtain ⟨its, rv, p, hz⟩ := I.list hq
    obtain ⟨f0, f1, f2, f3, f4, f5⟩ := hf it (by simp)
    have hl := rv.length
    exact wpAny_pyNext_list_end (I.ok.hd hc) st p.isList (by simp; omega) fun h' eb => ⟨rfl, I.turned (t' := s.toks) (fun b o hb e => eb b o hb e) f0 f1 f3 f4 f5⟩
  self := fun _ _ _ _ _ st h => wpAny_pyIter_listiter st h
theorem turn_range {P : Program} {w : World} {K : Fg} {tg : Expr} (it : Addr) (lo : Int) (n : Nat) : Turn P w K tg (Itr lo n) [it] it (fun i h => IsRangeIter h it (lo + (i : Nat) * 1) ((n : Int) - (i : Nat)) 1) where
  mem := by simp
  obj := fun i h st b hb => by
    have e : b = it := by simpa using hb
    subst e
    exact ⟨_, st, fun v z => by
      have z' : Data.fields _ = Data.cell v := z
      cases z'⟩
  keep := fun i h h' st k => k it (by simp) _ st
  item := by
    intro X hP hw hK hc i pins s σ H E I hf st hg
    subst hP hw hK
    obtain ⟨f0, f1, f2, f3, f4, f5⟩ := hf it (by simp)
    have W := Walks.range (prog := X.prog) (w := X.w) (I.ok.hd hc) it lo 1 n
    refine W.item i s _ _ hg st fun v h' tk hv st' kk => ?_
    obtain ⟨t, rfl⟩ := hv
    have I1 : Inv X pins σ H { s with heap := h', toks := tk } := I.turned (fun b o hb e => kk b o (by simpa using hb) e) f0 f1 f3 f4 f5
    refine ⟨_, rfl, go_of (s := { s with heap := h', toks := tk }) (n := "range_iterator") st' rfl rfl (by decide) ⟨.int (lo + i), H, I1, ⟨t, ?_⟩, ⟨rfl, rfl⟩, st', fun b hb => (hf b hb).1⟩⟩
    rw [Int.mul_one]
  done := by
    intro X hP hw hK hc i pins s σ H E I hf st hg
    subst hP hw hK
    obtain ⟨f0, f1, f2, f3, f4, f5⟩ := hf it (by simp)
    exact wpAny_pyNext_range_end (I.ok.hd hc) st (by have : n ≤ i := hg; omega) fun h' eb => ⟨rfl, I.turned (t' := s.toks) (fun b o hb e => eb b o hb e) f0 f1 f3 f4 f5⟩
  self := fun _ _ _ _ _ st h => wpAny_pyIter_rangeiter st h
end L2

namespace L2
open PySem PySem.Spec PyProof.Rows
section
variable {X : Cx} {tg : Expr}
def iList (K : Fg) (tl : TE) : TI := fun σ H R => tl σ H fun x H1 => ∃ a, x = .ref a ∧ (∃ xs, SqL K H1 a xs) ∧ R (Itl K a) H1
theorem pi_list {l : Expr} {tl : TE} (hl : PE X l tl) : PI X tg l (iList X.K tl) := by
  intro pins s σ H R I h
  refine thn (hl pins s σ H _ I h) fun v s1 ⟨x, H1, I1, r1, q1⟩ => ?_
  obtain ⟨a, e, ⟨xs, hq⟩, q⟩ := q1
  subst e
  cases r1
  obtain ⟨its, rv, p, hz⟩ := I1.list hq
  refine wpAny_pyIter_list p.isList ?_
  refine ⟨s1.heap.objs.size, [s1.heap.objs.size], _, _, H1, rfl, I1.kept (t' := s1.toks) fun b o e => Heap.get?_push_of_some _ e, turn_list a _, ⟨_, Heap.get?_push_size _ rfl, rfl, rfl⟩, fun b hb => ?_, q⟩
  have e : b = s1.heap.objs.size := by simpa using hb
  subst e
  exact I1.fpOk (Nat.le_refl _) (I1.hok.fresh (Nat.le_refl _))
/-- a range object just made, walked -/
theorem range_it {pins : Pn} {σ : St} {H : Hp} {s : Shared} {R : It → Hp → Prop} {E : Value → Shared → Prop} {lo hi : Int} {t u v : Tok} {tk : Nat} (I : Inv X pins σ H s) (h1 : -(2 ^ 62) ≤ lo) (h2 : lo < 2 ^ 62) (h3 : -(2 ^ 62) ≤ hi) (h4 : hi < 2 ^ 62)
    (q : R (Itr lo (hi - lo).toNat) H) : wpAny (model X.prog X.w) X.A (pyIter (.ref s.heap.objs.size)) (PIE X pins σ tg R) E { s with heap := s.heap.push { cls := .type "range", data := .fields #[.int lo t, .int hi u, .int 1 v] }, toks := tk } := by
  refine wpAny_pyIter_range (IsRange.new ..) (small_one h1 h2 h3 h4) ?_
  have I1 : Inv X pins σ H { s with heap := s.heap.push { cls := .type "range", data := .fields #[.int lo t, .int hi u, .int 1 v] }, toks := tk } := I.kept fun b o e => Heap.get?_push_of_some _ e
  refine ⟨(s.heap.push { cls := .type "range", data := .fields #[.int lo t, .int hi u, .int 1 v] }).objs.size, [(s.heap.push { cls := .type "range", data := .fields #[.int lo t, .int hi u, .int 1 v] }).objs.size], _, _, H, rfl,
    I1.kept (t' := tk) fun b o e => Heap.get?_push_of_some _ e, turn_range _ lo (hi - lo).toNat, ?_, fun b hb => ?_, q⟩
  · have e1 : lo + ((0 : Nat) : Int) * 1 = lo := by simp
    have e2 : (((hi - lo).toNat : Nat) : Int) - ((0 : Nat) : Int) = Builtin.Range.rangeSize lo hi 1 := by rw [rangeSize_one]; split <;> omega
    show IsRangeIter _ _ (lo + ((0 : Nat) : Int) * 1) ((((hi - lo).toNat : Nat) : Int) - ((0 : Nat) : Int)) 1
    rw [e1, e2]
    exact Heap.get?_push_size _ rfl
  · have e : b = (s.heap.push { cls := .type "range", data := .fields #[.int lo t, .int hi u, .int 1 v] }).objs.size := by simpa using hb
    subst e
    exact I1.fpOk (Nat.le_refl _) (I1.hok.fresh (Nat.le_refl _))
def iRng1 (ta : TA) : TI := fun σ H R => ta σ H fun vs H1 => ∃ j : Int, vs = [.int j] ∧ -(2 ^ 62) ≤ j ∧ j < 2 ^ 62 ∧ R (Itr 0 j.toNat) H1
theorem pi_range1 {a : Expr} {ta : TA} {p pos : Pos} (hg : Gl X "range") (hm : X.mg "range" = none) (ha : PA X [a] ta) (hs : starEach [a] X.env = [(false, eval a X.env)] := by rfl) : PI X tg (.Call (.Name "range" p) [a] [] pos) (iRng1 ta) := by
  intro pins s σ H R I h
  refine Call_ (ld_blt I hg hm boot_range (PyProof.Rows.callWith_type1 (thn (ha pos pins s σ H _ I h) fun us s1 ⟨vs, H1, I1, r1, q1⟩ => ?_) hs rfl))
  obtain ⟨j, e, q1, q2, q⟩ := q1
  subst e
  cases r1 with
  | cons r rr =>
    cases rr
    obtain ⟨t, rfl⟩ := r
    exact call_range_1 (range_it I1 (by omega) (by omega) q1 q2 (by simpa using q))
/-! ### for -/
/-- W: the invariant by the turn and a measure; N: what the body is to reach -/
def tFor (wi : TI) (g : TG) (tb : TS) : TS := fun D σ H => wi σ H fun J H1 => ∃ W : Nat → Nat → St → Hp → Prop, (∃ m, W 0 m σ H1) ∧ ∀ i m σ H, W i m σ H →
  (J.stop i H ∧ D.nx σ H) ∨ (J.go i H ∧ ∃ N : St → Hp → Prop, (∀ σ' H', N σ' H' → ∃ m', m' < m ∧ W (i + 1) m' σ' H') ∧ ∀ x H', J.yld i H x H' → g x σ H' fun σ2 H2 => tb { D with nx := N, ct := N, bk := D.nx } σ2 H2)
/-- the records at fp as they stand -/
def pinsAt (fp : List Addr) (h : Heap) : Pn := fp.filterMap fun b => (h.get? b).map fun o => (b, o)
theorem mem_pinsAt {fp : List Addr} {h : Heap} {b : Addr} {o : Obj} (hb : b ∈ fp) (e : h.get? b = some o) : (b, o) ∈ pinsAt fp h := List.mem_filterMap.mpr ⟨b, hb, by rw [e]; rfl⟩
theorem of_pinsAt {fp : List Addr} {h : Heap} {p : Addr × Obj} (hp : p ∈ pinsAt fp h) : p.1 ∈ fp ∧ h.get? p.1 = some p.2 := by
  obtain ⟨b, hb, e⟩ := List.mem_filterMap.mp hp
  cases q : h.get? b with
  | none => rw [q] at e; cases e
  | some o =>
    rw [q] at e
    have e' : (b, o) = p := Option.some.inj e
    subst e'
    exact ⟨hb, q⟩
theorem Inv.pinned {pins : Pn} {σ : St} {H : Hp} {s : Shared} {fp : List Addr} (I : Inv X pins σ H s) (hf : ∀ b ∈ fp, FpOk X pins H b) (ho : ∀ b ∈ fp, ∃ o, s.heap.get? b = some o ∧ ∀ v, o.data ≠ .cell v) : Inv X (pins ++ pinsAt fp s.heap) σ H s :=
  I.pins_of fun p hp => (List.mem_append.mp hp).elim (fun z => I.pin p (List.mem_append_right _ z)) fun z => by
    obtain ⟨hb, e⟩ := of_pinsAt z
    obtain ⟨f0, f1, f2, _⟩ := hf p.1 hb
    obtain ⟨o, e', d⟩ := ho p.1 hb
    rw [e] at e'; cases e'
    exact ⟨e, f0, f1, f2, d⟩
theorem Inv.unpinned {pins pl : Pn} {σ : St} {H : Hp} {s : Shared} (I : Inv X (pins ++ pl) σ H s) : Inv X pins σ H s := I.pins_of fun p hp => I.pin p (List.mem_append_right _ (List.mem_append_left _ hp))
theorem ps_for {iter : Expr} {body : List Stmt} {wi : TI} {g : TG} {tb : TS} {pos : Pos} (hp : PassesOwn (model X.prog X.w) X.A X.env X.xe) (hc : X.calm = true) (hi : PI X tg iter wi) (hg : PG X tg g) (hb : PSs X body tb)
    (hs : ∀ x, foldedSetIterable iter X.env x = pure x := by intro _; rfl) : PS X (.For tg iter body [] pos) (tFor wi g tb) := by
  intro pins s σ H D I h
  refine wpAny_For (thn (hi pins s σ H _ I h) fun v s1 h1 => thn h1 fun itv s2 h2 => ?_) hs
  obtain ⟨it, fp, tn, J, H2, e, I2, T, st2, f2, W, ⟨m0, w0⟩, turn⟩ := h2
  subst e
  -- what stays true of the iterator's objects through the loop
  have stat : ∀ {H' : Hp}, (∀ b ∈ fp, H' b = none) → ∀ b ∈ fp, FpOk X pins H' b := fun hn b hb => ⟨hn b hb, (f2 b hb).2⟩
  refine codeAny_forLoop_any (fun n s' => ∃ i σ' H', Inv X pins σ' H' s' ∧ tn i s'.heap ∧ (∀ b ∈ fp, H' b = none) ∧ W i n σ' H') ?_ m0 ⟨0, σ, H2, I2, st2, fun b hb => (f2 b hb).1, w0⟩
  rintro n s3 ⟨i, σ3, H3, I3, st3, fr3, w3⟩
  rcases turn i n σ3 H3 w3 with ⟨stop, qn⟩ | ⟨go, N, hN, step⟩
  · refine wpAny_passesOwn hp (thn (T.done X rfl rfl rfl hc i pins s3 σ3 H3 X.xe I3 (stat fr3) st3 stop) fun r s4 ⟨hr, I4⟩ => ?_)
    subst hr
    exact wpAny_execs_nil ⟨σ3, H3, I4, qn⟩
  · refine wpAny_passesOwn hp (thn (T.item X rfl rfl rfl hc i pins s3 σ3 H3 X.xe I3 (stat fr3) st3 go) fun r s4 ⟨u, hr, h4⟩ => ?_)
    subst hr
    refine wpAny_passesOwn hp (thn h4 fun _ s5 ⟨x, H5, I5, r5, y5, st5, fr5⟩ => ?_)
    have I5' := I5.pinned (stat fr5) (T.obj _ _ st5)
    refine wpAny_passesOwn hp (thn (hg _ s5 σ3 H5 x u _ I5' r5 (step x H5 y5)) fun _ s6 ⟨σ6, H6, I6, q6⟩ => ?_)
    refine wpAny_passesOwn hp (thn (hb _ s6 σ6 H6 _ I6 q6) fun f s7 q7 => ?_)
    have again : ∀ {σ7 : St} {H7 : Hp}, Inv X (pins ++ pinsAt fp s5.heap) σ7 H7 s7 → N σ7 H7 → ∃ m, m < n ∧ ∃ i σ' H', Inv X pins σ' H' s7 ∧ tn i s7.heap ∧ (∀ b ∈ fp, H' b = none) ∧ W i m σ' H' := fun {σ7 H7} I7 n7 => by
      obtain ⟨m', hm, w7⟩ := hN σ7 H7 n7
      refine ⟨m', hm, i + 1, σ7, H7, I7.unpinned, T.keep _ _ _ st5 fun b hb o e => (I7.pin (b, o) (List.mem_append_right _ (List.mem_append_right _ (mem_pinsAt hb e)))).1, fun b hb => ?_, w7⟩
      obtain ⟨o, e, d⟩ := T.obj _ _ st5 b hb
      exact (I7.pin (b, o) (List.mem_append_right _ (List.mem_append_right _ (mem_pinsAt hb e)))).2.1
    cases f with
    | next => obtain ⟨σ7, H7, I7, n7⟩ := q7; exact again I7 n7
    | cont => obtain ⟨σ7, H7, I7, n7⟩ := q7; exact again I7 n7
    | brk => obtain ⟨σ7, H7, I7, q7⟩ := q7; exact ⟨σ7, H7, I7.unpinned, q7⟩
    | ret v => obtain ⟨x7, σ7, H7, I7, r7, q7⟩ := q7; exact ⟨x7, σ7, H7, I7.unpinned, r7, q7⟩
end

/-! ### the forms one uses -/
/-- over a list that the body leaves as it is -/
theorem for_list {K : Fg} {a : Addr} {xs : List V} {g : TG} {tb : TS} {D : Ends} {σ : St} {H : Hp} (Pv : Nat → St → Hp → Prop) (h0 : Pv 0 σ H) (hl : ∀ i σ H, i ≤ xs.length → Pv i σ H → SqL K H a xs)
    (hs : ∀ i x σ H, xs[i]? = some x → Pv i σ H → g x σ H fun σ2 H2 => tb { D with nx := Pv (i + 1), ct := Pv (i + 1), bk := D.nx } σ2 H2) (hd : ∀ σ H, Pv xs.length σ H → D.nx σ H) :
    ∃ W : Nat → Nat → St → Hp → Prop, (∃ m, W 0 m σ H) ∧ ∀ i m σ H, W i m σ H →
      ((Itl K a).stop i H ∧ D.nx σ H) ∨ ((Itl K a).go i H ∧ ∃ N : St → Hp → Prop, (∀ σ' H', N σ' H' → ∃ m', m' < m ∧ W (i + 1) m' σ' H') ∧ ∀ x H', (Itl K a).yld i H x H' → g x σ H' fun σ2 H2 => tb { D with nx := N, ct := N, bk := D.nx } σ2 H2) := by
  refine ⟨fun i m σ H => m = xs.length - i ∧ i ≤ xs.length ∧ Pv i σ H, ⟨xs.length, by simp, Nat.zero_le _, h0⟩, ?_⟩
  rintro i m σ H ⟨rfl, hi, p⟩
  have q := hl i σ H hi p
  by_cases hlt : i < xs.length
  · refine .inr ⟨⟨xs, xs[i], q, by simp [hlt]⟩, Pv (i + 1), fun σ' H' p' => ⟨xs.length - (i + 1), by omega, rfl, hlt, p'⟩, fun x H' y => ?_⟩
    obtain ⟨e, y⟩ := y
    subst e
    exact hs i x σ _ (y xs q) p
  · have e : i = xs.length := by omega
    subst e
    exact .inl ⟨⟨xs, q, Nat.le_refl _⟩, hd σ H p⟩
theorem for_range {lo : Int} {n : Nat} {g : TG} {tb : TS} {D : Ends} {σ : St} {H : Hp} (Pv : Nat → St → Hp → Prop) (h0 : Pv 0 σ H)
    (hs : ∀ i σ H, i < n → Pv i σ H → g (.int (lo + i)) σ H fun σ2 H2 => tb { D with nx := Pv (i + 1), ct := Pv (i + 1), bk := D.nx } σ2 H2) (hd : ∀ σ H, Pv n σ H → D.nx σ H) :
    ∃ W : Nat → Nat → St → Hp → Prop, (∃ m, W 0 m σ H) ∧ ∀ i m σ H, W i m σ H →
      ((Itr lo n).stop i H ∧ D.nx σ H) ∨ ((Itr lo n).go i H ∧ ∃ N : St → Hp → Prop, (∀ σ' H', N σ' H' → ∃ m', m' < m ∧ W (i + 1) m' σ' H') ∧ ∀ x H', (Itr lo n).yld i H x H' → g x σ H' fun σ2 H2 => tb { D with nx := N, ct := N, bk := D.nx } σ2 H2) := by
  refine ⟨fun i m σ H => m = n - i ∧ i ≤ n ∧ Pv i σ H, ⟨n, by simp, Nat.zero_le _, h0⟩, ?_⟩
  rintro i m σ H ⟨rfl, hi, p⟩
  by_cases hlt : i < n
  · refine .inr ⟨hlt, Pv (i + 1), fun σ' H' p' => ⟨n - (i + 1), by omega, rfl, hlt, p'⟩, fun x H' y => ?_⟩
    obtain ⟨e, y⟩ := y
    subst e y
    exact hs i σ _ hlt p
  · have e : i = n := by omega
    subst e
    exact .inl ⟨Nat.le_refl _, hd σ H p⟩
end L2

namespace L2
open PySem PySem.Spec PyProof.Rows

abbrev R2 := V → V → Hp → VK → Prop
/-- a two-place operation on values: f is binaryOp op, inplaceOp op or compareOp op -/
def OpR (X : Cx) (f : Value → Value → Sem Value) (r : R2) : Prop :=
  ∀ (pins : Pn) (s : Shared) (σ : St) (H : Hp) (x y : V) (v u : Value) (Q : VK), Inv X pins σ H s → RelV x v → RelV y u → r x y H Q →
    wpAny (model X.prog X.w) X.A (f v u) (EP X pins σ Q) X.xe s
/-- a one-place operation -/
def UnR (X : Cx) (f : Value → Sem Value) (r : V → Hp → VK → Prop) : Prop :=
  ∀ (pins : Pn) (s : Shared) (σ : St) (H : Hp) (x : V) (v : Value) (Q : VK), Inv X pins σ H s → RelV x v → r x H Q →
    wpAny (model X.prog X.w) X.A (f v) (EP X pins σ Q) X.xe s
/-- a call of a value that is known (a builtin, a type) with values -/
def CallR (X : Cx) (f : Value) (r : List V → Hp → VK → Prop) : Prop :=
  ∀ (pins : Pn) (s : Shared) (σ : St) (H : Hp) (xs : List V) (us : List Value) (Q : VK), Inv X pins σ H s → Vals xs us → r xs H Q →
    wpAny (model X.prog X.w) X.A (call f us) (EP X pins σ Q) X.xe s
def tOp (r : R2) (ta tb : TE) : TE := fun σ H Q => ta σ H fun x H1 => tb σ H1 fun y H2 => r x y H2 Q
def tUn (r : V → Hp → VK → Prop) (ta : TE) : TE := fun σ H Q => ta σ H fun x H1 => r x H1 Q
/-- ints in, under C, and a value out -/
def rI (C : Int → Int → Prop) (g : Int → Int → V) : R2 := fun x y H Q => ∃ i j, x = .int i ∧ y = .int j ∧ C i j ∧ Q (g i j) H
def rI0 (g : Int → Int → V) : R2 := fun x y H Q => ∃ i j, x = .int i ∧ y = .int j ∧ Q (g i j) H
def rU (g : Int → V) : V → Hp → VK → Prop := fun x H Q => ∃ i, x = .int i ∧ Q (g i) H

section
variable {X : Cx} {a b c : Expr} {ta tb tc : TE} {pos : Pos}

theorem binT (ha : PE X a ta) (hb : PE X b tb) {pins : Pn} {s : Shared} {σ : St} {H : Hp} {R : V → V → Hp → Prop} (I : Inv X pins σ H s)
    (h : ta σ H fun x H1 => tb σ H1 fun y H2 => R x y H2) {Q : Value → Shared → Prop} {f : Value → Value → Sem Value}
    (hf : ∀ v u s2 x y H2, Inv X pins σ H2 s2 → RelV x v → RelV y u → R x y H2 → wpAny (model X.prog X.w) X.A (f v u) Q X.xe s2) :
    wpAny (model X.prog X.w) X.A (eval a X.env) (fun v s₁ => wpAny (model X.prog X.w) X.A (eval b X.env) (fun u s₂ => wpAny (model X.prog X.w) X.A (f v u) Q X.xe s₂) X.xe s₁) X.xe s := by
  refine thn (ha pins s σ H _ I h) fun v s1 ⟨x, H1, I1, r1, q1⟩ => ?_
  refine thn (hb pins s1 σ H1 _ I1 q1) fun u s2 ⟨y, H2, I2, r2, q2⟩ => ?_
  exact hf v u s2 x y H2 I2 r1 r2 q2

theorem pe_op {op : Operator} {r : R2} (ho : OpR X (binaryOp op) r) (ha : PE X a ta) (hb : PE X b tb) : PE X (.BinOp a op b pos) (tOp r ta tb) := by
  intro pins s σ H Q I h
  exact wpAny_BinOp (binT ha hb I h fun v u s2 x y H2 I2 rx ry q => ho pins s2 σ H2 x y v u Q I2 rx ry q)
theorem pe_un {op : UnaryOp} {r : V → Hp → VK → Prop} (ho : UnR X (unaryOp op) r) (ha : PE X a ta) : PE X (.UnaryOp op a pos) (tUn r ta) := by
  intro pins s σ H Q I h
  exact UnaryOp_ (thn (ha pins s σ H _ I h) fun v s1 ⟨x, H1, I1, r1, q1⟩ => ho pins s1 σ H1 x v Q I1 r1 q1)
/-! ### ints -/
theorem opI {f : Value → Value → Sem Value} {C : Int → Int → Prop} {g : Int → Int → Int}
    (rule : ∀ (i j : Int) (t u : Tok) (s : Shared) (Q : Value → Shared → Prop) (E : Value → Shared → Prop), C i j → Q (.int (g i j) s.toks) { s with toks := s.toks + 1 } → wpAny (model X.prog X.w) X.A (f (.int i t) (.int j u)) Q E s) :
    OpR X f (rI C fun i j => .int (g i j)) := by
  intro pins s σ H x y v u Q I rx ry h
  obtain ⟨i, j, rfl, rfl, hc, q⟩ := h
  obtain ⟨t, rfl⟩ := rx
  obtain ⟨t', rfl⟩ := ry
  exact rule i j t t' s _ _ hc ⟨.int (g i j), H, I.tok _, ⟨_, rfl⟩, q⟩
theorem opI0 {f : Value → Value → Sem Value} {g : Int → Int → Int}
    (rule : ∀ (i j : Int) (t u : Tok) (s : Shared) (Q : Value → Shared → Prop) (E : Value → Shared → Prop), Q (.int (g i j) s.toks) { s with toks := s.toks + 1 } → wpAny (model X.prog X.w) X.A (f (.int i t) (.int j u)) Q E s) :
    OpR X f (rI0 fun i j => .int (g i j)) := by
  intro pins s σ H x y v u Q I rx ry h
  obtain ⟨i, j, rfl, rfl, q⟩ := h
  obtain ⟨t, rfl⟩ := rx
  obtain ⟨t', rfl⟩ := ry
  exact rule i j t t' s _ _ ⟨.int (g i j), H, I.tok _, ⟨_, rfl⟩, q⟩
theorem opB0 {f : Value → Value → Sem Value} {g : Int → Int → Bool}
    (rule : ∀ (i j : Int) (t u : Tok) (s : Shared) (Q : Value → Shared → Prop) (E : Value → Shared → Prop), Q (.bool (g i j)) s → wpAny (model X.prog X.w) X.A (f (.int i t) (.int j u)) Q E s) :
    OpR X f (rI0 fun i j => .bl (g i j)) := by
  intro pins s σ H x y v u Q I rx ry h
  obtain ⟨i, j, rfl, rfl, q⟩ := h
  obtain ⟨t, rfl⟩ := rx
  obtain ⟨t', rfl⟩ := ry
  exact rule i j t t' s _ _ ⟨.bl (g i j), H, I, rfl, q⟩

theorem op_add : OpR X (binaryOp .Add) (rI0 fun i j => .int (i + j)) := opI0 fun _ _ _ _ _ _ _ q => add_int q
/-- % by a positive divisor of any size -/
theorem op_mod : OpR X (binaryOp .Mod) (rI (fun _ j => 0 < j) fun i j => .int (i % j)) := opI fun i j _ _ _ _ _ hc q => by
  have h1 : (0 : Int) < j := hc
  exact mod_int' (by omega) (by rw [Int.fmod_eq_emod_of_nonneg i (by omega)]; exact q)
theorem unI {f : Value → Sem Value} {g : Int → Int}
    (rule : ∀ (i : Int) (t : Tok) (s : Shared) (Q : Value → Shared → Prop) (E : Value → Shared → Prop), Q (.int (g i) s.toks) { s with toks := s.toks + 1 } → wpAny (model X.prog X.w) X.A (f (.int i t)) Q E s) :
    UnR X f (rU fun i => .int (g i)) := by
  intro pins s σ H x v Q I rx h
  obtain ⟨i, rfl, q⟩ := h
  obtain ⟨t, rfl⟩ := rx
  exact rule i t s _ _ ⟨.int (g i), H, I.tok _, ⟨_, rfl⟩, q⟩
theorem un_neg : UnR X (unaryOp .USub) (rU fun i => .int (-i)) := unI fun _ _ _ _ _ q => neg_int q
/-! ### bools among ints: n += (a < b) -/
end

/-! ### comparisons -/
/-- the scalars that == tells apart as data does -/
def scal : V → V → Bool
  | .non, .non => true | .non, .int _ => true | .int _, .non => true | .non, .bl _ => true | .bl _, .non => true | .non, .str _ => true | .str _, .non => true
  | .int _, .int _ => true | .bl _, .bl _ => true | .str _, .str _ => true | .byt _, .byt _ => true
  | .int _, .str _ => true | .str _, .int _ => true | .bl _, .str _ => true | .str _, .bl _ => true
  | _, _ => false
def rEq : R2 := fun x y H Q => scal x y = true ∧ Q (.bl (decide (x = y))) H
def rNe : R2 := fun x y H Q => scal x y = true ∧ Q (.bl (!decide (x = y))) H

theorem dec_int {i j : Int} : decide (V.int i = V.int j) = (i == j) := by
  rw [Bool.eq_iff_iff]
  simp
theorem dec_bl {i j : Bool} : decide (V.bl i = V.bl j) = (i == j) := by
  rw [Bool.eq_iff_iff]
  simp
theorem dec_str {i j : Str} : decide (V.str i = V.str j) = (i == j) := by
  rw [Bool.eq_iff_iff]
  simp
theorem dec_byt {i j : Array UInt8} : decide (V.byt i = V.byt j) = (i.toList == j.toList) := by
  rw [Bool.eq_iff_iff]
  cases i
  cases j
  simp

section
variable {X : Cx} {a b c : Expr} {ta tb tc : TE} {pos : Pos}
theorem fin_bl {pins : Pn} {σ : St} {H : Hp} {s : Shared} {Q : VK} {k k' : Bool} (I : Inv X pins σ H s) (q : Q (.bl k) H) (e : k = k') : EP X pins σ Q (.bool k') s := by
  subst e
  exact ⟨.bl k, H, I, rfl, q⟩
theorem op_eq : OpR X (compareOp .Eq) rEq := by
  intro pins s σ H x y v u Q I rx ry h
  obtain ⟨hs, q⟩ := h
  cases x with
  | non =>
    cases rx
    cases y with
    | non => cases ry; exact PySem.EqNone.eq_none_none (fin_bl I q (by simp))
    | bl j => cases ry; exact PySem.EqNone.eq_none_bool (fin_bl I q (by simp))
    | int j => obtain ⟨t', rfl⟩ := ry; exact PySem.EqNone.eq_none_int (fin_bl I q (by simp))
    | str j => obtain ⟨t', rfl⟩ := ry; exact PySem.EqNone.eq_none_str (fin_bl I q (by simp))
    | _ => exact absurd (show false = true from hs) Bool.false_ne_true
  | bl i =>
    cases rx
    cases y with
    | non => cases ry; exact PySem.EqNone.eq_bool_none (fin_bl I q (by simp))
    | bl j => cases ry; exact eq_bool (fin_bl I q dec_bl)
    | str j => obtain ⟨t', rfl⟩ := ry; exact PySem.EqMixed.eq_bool_str (fin_bl I q (by simp))
    | _ => exact absurd (show false = true from hs) Bool.false_ne_true
  | int i =>
    obtain ⟨t, rfl⟩ := rx
    cases y with
    | non => cases ry; exact PySem.EqNone.eq_int_none (fin_bl I q (by simp))
    | int j => obtain ⟨t', rfl⟩ := ry; exact eq_int (fin_bl I q dec_int)
    | str j => obtain ⟨t', rfl⟩ := ry; exact PySem.EqMixed.eq_int_str (fin_bl I q (by simp))
    | _ => exact absurd (show false = true from hs) Bool.false_ne_true
  | str i =>
    obtain ⟨t, rfl⟩ := rx
    cases y with
    | non => cases ry; exact PySem.EqNone.eq_str_none (fin_bl I q (by simp))
    | bl j => cases ry; exact PySem.EqMixed.eq_str_bool (fin_bl I q (by simp))
    | int j => obtain ⟨t', rfl⟩ := ry; exact PySem.EqMixed.eq_str_int (fin_bl I q (by simp))
    | str j => obtain ⟨t', rfl⟩ := ry; exact eq_str (fin_bl I q dec_str)
    | _ => exact absurd (show false = true from hs) Bool.false_ne_true
  | byt i =>
    obtain ⟨t, rfl⟩ := rx
    cases y with
    | byt j => obtain ⟨t', rfl⟩ := ry; exact PySem.W.eq_bytes (fin_bl I q dec_byt)
    | _ => exact absurd (show false = true from hs) Bool.false_ne_true
  | _ => cases y <;> exact absurd (show false = true from hs) Bool.false_ne_true
theorem op_ne : OpR X (compareOp .NotEq) rNe := by
  intro pins s σ H x y v u Q I rx ry h
  obtain ⟨hs, q⟩ := h
  cases x with
  | non =>
    cases rx
    cases y with
    | non => cases ry; exact PySem.EqNone.ne_none_none (fin_bl I q (by simp))
    | bl j => cases ry; exact PySem.EqNone.ne_none_bool (fin_bl I q (by simp))
    | int j => obtain ⟨t', rfl⟩ := ry; exact PySem.EqNone.ne_none_int (fin_bl I q (by simp))
    | str j => obtain ⟨t', rfl⟩ := ry; exact PySem.EqNone.ne_none_str (fin_bl I q (by simp))
    | _ => exact absurd (show false = true from hs) Bool.false_ne_true
  | bl i =>
    cases rx
    cases y with
    | non => cases ry; exact PySem.EqNone.ne_bool_none (fin_bl I q (by simp))
    | bl j => cases ry; exact ne_bool (fin_bl I q (congrArg not dec_bl))
    | str j => obtain ⟨t', rfl⟩ := ry; exact PySem.EqMixed.ne_bool_str (fin_bl I q (by simp))
    | _ => exact absurd (show false = true from hs) Bool.false_ne_true
  | int i =>
    obtain ⟨t, rfl⟩ := rx
    cases y with
    | non => cases ry; exact PySem.EqNone.ne_int_none (fin_bl I q (by simp))
    | int j => obtain ⟨t', rfl⟩ := ry; exact ne_int (fin_bl I q (congrArg not dec_int))
    | str j => obtain ⟨t', rfl⟩ := ry; exact PySem.EqMixed.ne_int_str (fin_bl I q (by simp))
    | _ => exact absurd (show false = true from hs) Bool.false_ne_true
  | str i =>
    obtain ⟨t, rfl⟩ := rx
    cases y with
    | non => cases ry; exact PySem.EqNone.ne_str_none (fin_bl I q (by simp))
    | bl j => cases ry; exact PySem.EqMixed.ne_str_bool (fin_bl I q (by simp))
    | int j => obtain ⟨t', rfl⟩ := ry; exact PySem.EqMixed.ne_str_int (fin_bl I q (by simp))
    | str j => obtain ⟨t', rfl⟩ := ry; exact ne_str (fin_bl I q (congrArg not dec_str))
    | _ => exact absurd (show false = true from hs) Bool.false_ne_true
  | byt i =>
    obtain ⟨t, rfl⟩ := rx
    cases y with
    | byt j => obtain ⟨t', rfl⟩ := ry; exact PySem.W.ne_bytes (fin_bl I q (congrArg not dec_byt))
    | _ => exact absurd (show false = true from hs) Bool.false_ne_true
  | _ => cases y <;> exact absurd (show false = true from hs) Bool.false_ne_true

theorem op_lt : OpR X (compareOp .Lt) (rI0 fun i j => .bl (decide (i < j))) := opB0 fun _ _ _ _ _ _ _ q => lt_int q
theorem op_le : OpR X (compareOp .LtE) (rI0 fun i j => .bl (decide (i ≤ j))) := opB0 fun _ _ _ _ _ _ _ q => le_int q
theorem op_gt : OpR X (compareOp .Gt) (rI0 fun i j => .bl (decide (j < i))) := opB0 fun _ _ _ _ _ _ _ q => gt_int q
theorem op_ge : OpR X (compareOp .GtE) (rI0 fun i j => .bl (decide (j ≤ i))) := opB0 fun _ _ _ _ _ _ _ q => ge_int q
/-- the one string within the other -/
theorem op_in_str : OpR X (compareOp .In) (fun x y H Q => ∃ i j, x = .str i ∧ y = .str j ∧ Q (.bl (!(Builtin.Str.occurrences j i 0 j.length 1).isEmpty)) H) := by
  intro pins s σ H x y v u Q I rx ry h
  obtain ⟨i, j, rfl, rfl, q⟩ := h
  obtain ⟨t, rfl⟩ := rx
  obtain ⟨t', rfl⟩ := ry
  exact in_str (fin_bl I q rfl)

theorem nomark (b : Expr) {op : CmpOp} (h : op ≠ .In := by decide) (h2 : op ≠ .NotIn := by decide) : behindInMarks op b = false := by
  have e1 : (op == CmpOp.In) = false := by cases op <;> first | rfl | exact absurd rfl h
  have e2 : (op == CmpOp.NotIn) = false := by cases op <;> first | rfl | exact absurd rfl h2
  cases b <;> simp [behindInMarks, e1, e2]
/-- a comparison as a value; hm: nomark b, or (for in, not in) by with_unfolding_all rfl -/
theorem pe_cmpR {op : CmpOp} {r : R2} (ho : OpR X (compareOp op) r) (ha : PE X a ta) (hb : PE X b tb) (hm : behindInMarks op b = false) : PE X (.Compare a [op] [b] pos) (tOp r ta tb) := by
  intro pins s σ H Q I h
  exact wpAny_Compare1 (binT ha hb I h fun v u s2 x y H2 I2 rx ry q => ho pins s2 σ H2 x y v u Q I2 rx ry q) hm
/-- a reading of a value as a test -/
def tTest (t : TE) : TT := fun σ H Q => t σ H fun x H' => ∃ k, x = .bl k ∧ Q k H'
theorem pt_cmpR {op : CmpOp} {r : R2} (ho : OpR X (compareOp op) r) (ha : PE X a ta) (hb : PE X b tb) (hm : behindInMarks op b = false) : PT X (.Compare a [op] [b] pos) (tTest (tOp r ta tb)) := by
  intro pins s σ H Q I h
  refine wpAny_isTrue_Compare1 (thn (ha pins s σ H _ I h) fun v s1 ⟨x, H1, I1, r1, q1⟩ => thn (hb pins s1 σ H1 _ I1 q1) fun u s2 ⟨y, H2, I2, r2, q2⟩ =>
    thn (ho pins s2 σ H2 x y v u _ I2 r1 r2 q2) fun c s3 ⟨z, H3, I3, r3, k, e, q3⟩ => ?_) hm
  subst e
  cases r3
  exact wpAny_truthy_bool ⟨H3, I3, q3⟩
/-- a op1 b op2 c -/
def tChain (r r' : R2) (ta tb tc : TE) : TE := fun σ H Q => ta σ H fun x H1 => tb σ H1 fun y H2 => r x y H2 fun z H3 => ∃ k, z = .bl k ∧
  (if k = true then tc σ H3 fun w' H4 => r' y w' H4 Q else Q (.bl false) H3)
theorem pe_chain {op op' : CmpOp} {r r' : R2} (ho : OpR X (compareOp op) r) (ho' : OpR X (compareOp op') r') (ha : PE X a ta) (hb : PE X b tb) (hc : PE X c tc)
    (hm : lastMarks [op, op'] [b, c] = false := by with_unfolding_all rfl) : PE X (.Compare a [op, op'] [b, c] pos) (tChain r r' ta tb tc) := by
  intro pins s σ H Q I h
  refine Compare_chain (thn (ha pins s σ H _ I h) fun v s1 ⟨x, H1, I1, r1, q1⟩ => chain_link (thn (hb pins s1 σ H1 _ I1 q1) fun u s2 ⟨y, H2, I2, r2, q2⟩ =>
    thn (ho pins s2 σ H2 x y v u _ I2 r1 r2 q2) fun d s3 ⟨z, H3, I3, r3, k, e, q3⟩ => ?_)) hm
  subst e
  cases r3
  refine wpAny_truthy_bool ?_
  cases k with
  | false => exact ite_ff ⟨.bl false, H3, I3, rfl, q3⟩
  | true => exact ite_tt (chain_last (thn (hc pins s3 σ H3 _ I3 q3) fun w' s4 ⟨z', H4, I4, r4, q4⟩ => ho' pins s4 σ H4 y z' u w' Q I4 r2 r4 q4))
/-! ### truth -/
theorem line63 : (sizeLine : Nat) < 2 ^ 63 := by rw [sizeLine_eq]; decide
/-! ### strs and bytes -/
theorem op_add_str : OpR X (binaryOp .Add) (fun x y H Q => ∃ i j, x = .str i ∧ y = .str j ∧ i.length + j.length ≤ sizeLine ∧ Q (.str (i ++ j)) H) := by
  intro pins s σ H x y v u Q I rx ry h
  obtain ⟨i, j, rfl, rfl, hz, q⟩ := h
  obtain ⟨t, rfl⟩ := rx
  obtain ⟨t', rfl⟩ := ry
  exact add_str (fun t' tk => ⟨.str (i ++ j), H, I.tok _, ⟨_, rfl⟩, q⟩) hz
/-! ### scalar builtins, by CallR -/
theorem vals1 {x : V} {us : List Value} (r : Vals [x] us) : ∃ u, us = [u] ∧ RelV x u := by
  cases r with
  | cons r1 r2 => cases r2; exact ⟨_, rfl, r1⟩
theorem vals2 {x y : V} {us : List Value} (r : Vals [x, y] us) : ∃ u w', us = [u, w'] ∧ RelV x u ∧ RelV y w' := by
  cases r with
  | cons r1 r2 =>
    cases r2 with
    | cons r3 r4 => cases r4; exact ⟨_, _, rfl, r1, r3⟩
theorem call_int1 : CallR X (.type "int") (fun xs H Q => (∃ i, xs = [.int i] ∧ Q (.int i) H) ∨ ∃ k, xs = [.bl k] ∧ Q (.int (if k then 1 else 0)) H) := by
  intro pins s σ H xs us Q I r h
  rcases h with ⟨i, rfl, q⟩ | ⟨k, rfl, q⟩
  · obtain ⟨u, rfl, t, rfl⟩ := vals1 r
    exact call_int_int ⟨.int i, H, I, ⟨_, rfl⟩, q⟩
  · obtain ⟨u, rfl, r1⟩ := vals1 r
    cases r1
    exact call_int_bool ⟨.int (if k then 1 else 0), H, I.tok _, ⟨_, rfl⟩, q⟩
end
end L2

namespace L2
open PySem PySem.Spec PyProof.Rows

/-! ### an instance, its attributes a map -/
structure ObjM (h : Heap) (x dx C : Addr) (mA : Str → Option Value) : Prop where
  obj : h.get? x = some (PySem.W.instObj C dx)
  ns : h.Ns1 dx mA
  ne : dx ≠ x

theorem lookIn_ns {h : Heap} {dx : Addr} {mA : Str → Option Value} (n : h.Ns1 dx mA) : ∃ od, h.get? dx = some od ∧ ∀ name, PySem.W.lookIn name od = some (mA name) := by
  obtain ⟨o, es, ep, ho, hd, hk, _, hm⟩ := n
  refine ⟨o, ho, fun name => ?_⟩
  have e := hm name
  unfold nsFind findBy at e
  rw [← Array.find?_toList] at e
  unfold PySem.W.lookIn
  rw [hd]
  dsimp only
  split
  · rename_i y q
    rw [q] at e
    exact congrArg some e
  · rename_i q
    rw [q] at e
    have a : es.toList.any (·.refKey) = false := by
      rw [List.any_eq_false]
      intro y hy
      obtain ⟨z, t, hkey⟩ := hk y (Array.mem_toList_iff.mp hy)
      simp [DictEntry.refKey, hkey]
    have a' : ¬ es.toList.any (·.refKey) = true := by rw [a]; exact Bool.false_ne_true
    rw [if_neg a']
    exact congrArg some e

theorem ObjM.look {h : Heap} {x dx C : Addr} {mA : Str → Option Value} (I : ObjM h x dx C mA) : ∃ od, PySem.W.InstAt h x (PySem.W.instObj C dx) C (some od) ∧ ∀ name, PySem.W.lookIn name od = some (mA name) :=
  let ⟨od, ho, hl⟩ := lookIn_ns I.ns
  ⟨od, ⟨I.obj, rfl, rfl, ho⟩, hl⟩

section
variable {prog : Program} {w : World} {A : Around} {E : Value → Shared → Prop} {s : Shared} {K : Fg} {x dx C f : Addr} {mA : Str → Option Value} {name : Str} {v : Value}

theorem get_map {expr : Bool} {Q : Value → Shared → Prop} (X : K.In s.heap) (I : ObjM s.heap x dx C mA) (hg : PySem.W.plainGet K C name = true) (hh : PySem.W.hasDictIn K C = true)
    (ha : PySem.W.findIn K (.ref C) name = some none) (hv : mA name = some v) (hv' : PySem.W.handedIn v = true) (h : Q v { s with toks := s.toks + 1 }) :
    wpAny (model prog w) A (getAttr (.ref x) name expr) Q E s := by
  obtain ⟨od, J, hl⟩ := I.look
  exact PySem.W.get_value X J (PySem.W.plainGet_of hg).1 (PySem.W.findObj_own hh ha rfl (by rw [hl, hv])) hv' h

theorem get_meth {pl : Sem Bool} {Q : Value × List Value → Shared → Prop} (X : K.In s.heap) (I : ObjM s.heap x dx C mA) (hg : PySem.W.plainGet K C name = true)
    (hf : PySem.W.findIn K (.ref C) name = some (some (.ref f))) (ht : PySem.W.isFn K (.ref f) = true) (hv : mA name = none) (h : Q (.ref f, [.ref x]) s) :
    wpAny (model prog w) A (getMethod (.ref x) name pl) Q E s := by
  obtain ⟨od, J, hl⟩ := I.look
  exact PySem.W.method_fn X J (PySem.W.plainGet_of hg).1 (PySem.W.plainGet_of hg).2 hf (beq_iff_eq.mp ht) (by show (PySem.W.lookIn name od).map (·.isSome) = some false; rw [hl, hv]; rfl) h

theorem set_map {ns : List Str} {Q : Unit → Shared → Prop} (X : K.In s.heap) (I : ObjM s.heap x dx C mA)
    (hs : PySem.W.findIn K (.ref C) "__setattr__" = some (some (.builtin "object.__setattr__"))) (hp : PySem.W.plainOver K C = true) (ht : PySem.W.takerIn K C name = some none) (hh : PySem.W.hasDictIn K C = true)
    (hw : PySem.Within mA ns) (hsz : ns.length ≤ sizeLine)
    (h : ∀ h', ObjM h' x dx C (fun y => if y = name then some v else mA y) → Heap.SameBut dx s.heap h' → Q () { s with heap := h', toks := s.toks + 2 }) :
    wpAny (model prog w) A (setAttr (.ref x) name v) Q E s := by
  obtain ⟨od, J, hl⟩ := I.look
  refine PySem.W.set_plain X J hs (PySem.W.osa_open (s := { s with toks := s.toks + 1 }) (r := none) X J hp ht fun b => ?_)
  obtain ⟨cd, hc, hd'⟩ := PySem.W.any_some hh
  have hx : s.heap.get? x = some ⟨.ref C, some dx, .plain, #[]⟩ := I.obj
  refine wpAny_bind (wpAny_pure (wpAny_bind (wpAny_bind (wpAny_loadPart hx (wpAny_bind (PySem.W.Looks.here (s := { s with toks := s.toks + 1 }) (PySem.W.looks_clsIn X hc) ?_))))))
  rw [hd']
  refine wpAny_pure (a := some dx) (wpAny_bind (wpAny_pure (wpAny_bind ?_)))
  refine wpAny_nsSet1 (s := { s with toks := s.toks + 1 }) I.ns fun h' hn2 hs2 => ?_
  obtain ⟨oD, esD, epD, hoD, hdD, hcD⟩ := hn2.count (PySem.Within.cons name v hw)
  refine wpAny_bind (wpAny_lookBehind hoD (by rw [hdD]; exact pastItsLine_dict (Nat.le_trans hcD (by rw [List.length_cons]; omega))) ?_)
  exact wpAny_pure (h _ ⟨(hs2.2 _ (Ne.symm I.ne)).trans I.obj, hn2, I.ne⟩ hs2)

/-- C(..): the dict at the heap's end, the instance behind it; then its __init__ -/
theorem make_map {R : Result → Shared → Prop} {vs : List Value} {kw : List (Str × Value)} (X : K.In s.heap) (hm : PySem.W.makesIn K C = true)
    (hi : PySem.W.findIn K (.ref C) "__init__" = some (some (.ref f))) (hf : PySem.W.typeIn K (.ref f) = some (.type "function"))
    (h : codeAny (model prog w) (A.under (.builtin "type.__call__" ⟨.ref C :: vs, kw⟩)) (.call (.ref f) ⟨.ref (s.heap.objs.size + 1) :: vs, kw⟩) (PySem.W.InitBack (s.heap.objs.size + 1) R)
      { s with heap := (s.heap.push PySem.W.emptyDict).push (PySem.W.instObj C s.heap.objs.size) }) :
    codeAny (model prog w) A (.call (.ref C) ⟨vs, kw⟩) R s := by
  obtain ⟨hh, g, d, t, os⟩ := s
  exact PySem.W.make_core (PySem.W.makes_of X hm) (PySem.W.looks_findIn X hi) (fun self => PySem.W.bind_fn X self hf) (.inl rfl) h
end

/-! ### the attributes as a list of pairs -/
def putF (f : Str) (v : V) : List (Str × V) → List (Str × V)
  | [] => [(f, v)]
  | (g, x) :: r => if g = f then (g, v) :: r else (g, x) :: putF f v r
theorem lookup_putF (f g : Str) (v : V) : ∀ fs : List (Str × V), (putF f v fs).lookup g = if g = f then some v else fs.lookup g
  | [] => by
    show List.lookup g [(f, v)] = _
    by_cases h : g = f
    · have hb : (g == f) = true := beq_iff_eq.mpr h
      simp only [List.lookup, hb, if_pos h]
    · have hb : (g == f) = false := beq_eq_false_iff_ne.mpr h
      simp only [List.lookup, hb, if_neg h]
  | (k, x) :: r => by
    have ih := lookup_putF f g v r
    rw [show putF f v ((k, x) :: r) = (if k = f then (k, v) :: r else (k, x) :: putF f v r) from rfl]
    by_cases hk : k = f
    · rw [if_pos hk]
      by_cases h : g = k
      · have hb : (g == k) = true := beq_iff_eq.mpr h
        simp only [List.lookup, hb, if_pos (h.trans hk)]
      · have hb : (g == k) = false := beq_eq_false_iff_ne.mpr h
        simp only [List.lookup, hb, if_neg (fun e : g = f => h (e.trans hk.symm))]
    · rw [if_neg hk]
      by_cases h : g = k
      · have hb : (g == k) = true := beq_iff_eq.mpr h
        simp only [List.lookup, hb, if_neg (fun e : g = f => hk (h.symm.trans e))]
      · have hb : (g == k) = false := beq_eq_false_iff_ne.mpr h
        simp only [List.lookup, hb]
        exact ih
theorem keys_putF (f : Str) (v : V) : ∀ fs : List (Str × V), f ∈ (putF f v fs).map (·.1) ∧ ∀ g, g ∈ fs.map (·.1) → g ∈ (putF f v fs).map (·.1)
  | [] => ⟨by simp [putF], fun g h => by simp at h⟩
  | (k, x) :: r => by
    obtain ⟨i1, i2⟩ := keys_putF f v r
    rw [show putF f v ((k, x) :: r) = (if k = f then (k, v) :: r else (k, x) :: putF f v r) from rfl]
    by_cases hk : k = f
    · rw [if_pos hk]
      subst hk
      exact ⟨by simp, fun g h => by simpa using h⟩
    · rw [if_neg hk]
      refine ⟨?_, fun g h => ?_⟩
      · rw [List.map_cons]
        exact List.mem_cons_of_mem _ i1
      · rw [List.map_cons] at h ⊢
        rcases List.mem_cons.mp h with e | e
        · exact List.mem_cons.mpr (.inl e)
        · exact List.mem_cons_of_mem _ (i2 g e)
theorem length_putF (f : Str) (v : V) : ∀ fs : List (Str × V), (putF f v fs).length ≤ fs.length + 1
  | [] => by simp [putF]
  | (k, x) :: r => by
    have ih := length_putF f v r
    rw [show putF f v ((k, x) :: r) = (if k = f then (k, v) :: r else (k, x) :: putF f v r) from rfl]
    by_cases hk : k = f
    · rw [if_pos hk, List.length_cons, List.length_cons]; omega
    · rw [if_neg hk, List.length_cons, List.length_cons]; omega

theorem RelO.some_of {v : V} {o : Option Value} (r : RelO (some v) o) : ∃ u, o = some u ∧ RelV v u := by
  cases o with
  | none => exact (show False from r).elim
  | some u => exact ⟨u, rfl, r⟩
theorem RelO.none_of {o : Option Value} (r : RelO none o) : o = none := by
  cases o with
  | none => rfl
  | some u => exact (show False from r).elim
theorem handed_of {v : V} {u : Value} (r : RelV v u) : PySem.W.handedIn u = true := by
  cases v with
  | non => cases (show u = Value.none from r); rfl
  | bl b => cases (show u = Value.bool b from r); rfl
  | int i => obtain ⟨t, e⟩ := (show ∃ t, u = Value.int i t from r); cases e; rfl
  | str x => obtain ⟨t, e⟩ := (show ∃ t, u = Value.str x t from r); cases e; rfl
  | byt b => obtain ⟨t, e⟩ := (show ∃ t, u = Value.bytes b t from r); cases e; rfl
  | flt b => obtain ⟨t, e⟩ := (show ∃ t, u = Value.float b t from r); cases e; rfl
  | ref a => cases (show u = Value.ref a from r); rfl
  | ty n => cases (show u = Value.type n from r); rfl

section
variable {P : Program} {w : World} {H H' : Hp} {h h' : Heap} {a C dx : Addr} {fs fs' : List (Str × V)}
theorem ins_get (hok : HOk P w H h) (e : H a = some (.ins C dx fs)) : ∃ mA, ObjM h a dx C mA ∧ (∀ f, RelO (fs.lookup f) (mA f)) ∧ PySem.Within mA (fs.map (·.1)) ∧ fs.length ≤ 1000 ∧ H dx = some (.own a) := by
  obtain ⟨d, z, ne, ob, mA, n, r, q⟩ := (show ObjOk P w H h a (.ins C dx fs) from hok a _ e)
  exact ⟨mA, ⟨ob, n, ne⟩, r, q, z, d⟩
end

/-! ### what of the text a class must have -/
structure Cls (K : Fg) (C : Addr) : Prop where
  pg : PySem.W.plainGet K C Str.empty = true
  hd : PySem.W.hasDictIn K C = true
  po : PySem.W.plainOver K C = true
  sa : PySem.W.findIn K (.ref C) "__setattr__" = some (some (.builtin "object.__setattr__"))
theorem Cls.get {K : Fg} {C : Addr} (c : Cls K C) (f : Str) : PySem.W.plainGet K C f = true := c.pg
/-- no class of it has the name -/
def NoAttr (K : Fg) (C : Addr) (f : Str) : Prop := PySem.W.findIn K (.ref C) f = some none
theorem NoAttr.taker {K : Fg} {C : Addr} {f : Str} (n : NoAttr K C f) : PySem.W.takerIn K C f = some none := by
  unfold PySem.W.takerIn
  rw [show PySem.W.findIn K (.ref C) f = some none from n]
  rfl
/-- a method: a plain def of the class or of one above it -/
structure Meth (K : Fg) (C : Addr) (m : Str) (f : Addr) : Prop where
  at_ : PySem.W.findIn K (.ref C) m = some (some (.ref f))
  fn : PySem.W.isFn K (.ref f) = true
  kp : PySem.W.keepIn K (.ref f) = true

section
variable {X : Cx} {pins : Pn} {σ : St} {H : Hp} {s : Shared} {a C dx : Addr} {fs : List (Str × V)} {f : Str} {v : V} {A : Around} {E : Value → Shared → Prop}

theorem getattr_ok {b : Bool} {Q : Value → Shared → Prop} (I : Inv X pins σ H s) (e : H a = some (.ins C dx fs)) (c : Cls X.K C) (n : NoAttr X.K C f) (l : fs.lookup f = some v)
    (h : ∀ u s', Inv X pins σ H s' → RelV v u → Q u s') : wpAny (model X.prog X.w) A (getAttr (.ref a) f b) Q E s := by
  obtain ⟨mA, O, r, _, _, _⟩ := ins_get I.hok e
  obtain ⟨u, hu, ru⟩ := RelO.some_of (v := v) (o := mA f) (by rw [← l]; exact r f)
  exact get_map I.kIn O (c.get f) c.hd n hu (handed_of ru) (h u _ (I.tok _) ru)

theorem getmeth_ok {m : Str} {g : Addr} {pl : Sem Bool} {Q : Value × List Value → Shared → Prop} (I : Inv X pins σ H s) (e : H a = some (.ins C dx fs)) (c : Cls X.K C) (k : Meth X.K C m g) (l : fs.lookup m = none)
    (h : Q (.ref g, [.ref a]) s) : wpAny (model X.prog X.w) A (getMethod (.ref a) m pl) Q E s := by
  obtain ⟨mA, O, r, _, _, _⟩ := ins_get I.hok e
  have hn : mA m = none := RelO.none_of (by rw [← l]; exact r m)
  exact get_meth I.kIn O (c.get m) k.at_ k.fn hn h

theorem setattr_ok {y : V} {u : Value} {Q : Unit → Shared → Prop} (I : Inv X pins σ H s) (e : H a = some (.ins C dx fs)) (c : Cls X.K C) (n : NoAttr X.K C f) (hl : fs.length < 1000) (ry : RelV y u)
    (h : ∀ s', Inv X pins σ (upd H a (.ins C dx (putF f y fs))) s' → Q () s') : wpAny (model X.prog X.w) A (setAttr (.ref a) f u) Q E s := by
  obtain ⟨mA, O, r, wi, _, ho⟩ := ins_get I.hok e
  have hz : (fs.map (·.1)).length ≤ sizeLine := by rw [List.length_map, sizeLine_eq]; omega
  refine set_map I.kIn O c.sa c.po n.taker c.hd wi hz fun h' O' sb => h _ ?_
  have hd : ∃ o, h'.get? dx = some o := let ⟨o, _, _, e', _⟩ := O'.ns; ⟨o, e'⟩
  refine I.write (x := a) (e := dx) (by rw [e]; exact True.intro) (.inr ho) (fun b q hb z => (sb.2 b hb).trans z) hd ?_
  refine ⟨by rw [upd_ne O.ne]; exact ho, ?_, O.ne, O'.obj, _, O'.ns, fun g => ?_, fun g hg => ?_⟩
  · have := length_putF f y fs; omega
  · show RelO ((putF f y fs).lookup g) (if g = f then some u else mA g)
    rw [lookup_putF]
    by_cases q : g = f
    · rw [if_pos q, if_pos q]; exact ry
    · rw [if_neg q, if_neg q]; exact r g
  · by_cases q : g = f
    · rw [q]; exact (keys_putF f y fs).1
    · refine (keys_putF f y fs).2 g (wi g fun z => hg ?_)
      show (if g = f then some u else mA g) = none
      rw [if_neg q]; exact z

/-- a new instance, tracked, without attributes -/
theorem Inv.made (I : Inv X pins σ H s) : Inv X pins σ (upd (upd H s.heap.objs.size (.own (s.heap.objs.size + 1))) (s.heap.objs.size + 1) (.ins C s.heap.objs.size []))
    { s with heap := (s.heap.push PySem.W.emptyDict).push (PySem.W.instObj C s.heap.objs.size) } := by
  have e1 : (s.heap.push PySem.W.emptyDict).get? s.heap.objs.size = some PySem.W.emptyDict := Heap.get?_push_size s.heap rfl
  have e2 : ((s.heap.push PySem.W.emptyDict).push (PySem.W.instObj C s.heap.objs.size)).get? (s.heap.objs.size + 1) = some (PySem.W.instObj C s.heap.objs.size) := by
    have := Heap.get?_push_size (s.heap.push PySem.W.emptyDict) (o := PySem.W.instObj C s.heap.objs.size) rfl
    rwa [Heap.size_push] at this
  have e3 : (s.heap.push PySem.W.emptyDict).Ns s.heap.objs.size (fun _ => none) := ⟨PySem.W.emptyDict, #[], _, e1, rfl, (fun e he => absurd he (by simp)), fun _ => rfl⟩
  have I1 := I.laid (a := s.heap.objs.size) (o := .own (s.heap.objs.size + 1)) (h' := s.heap.push PySem.W.emptyDict) (t' := s.toks) (fun b u q => Heap.get?_push_of_some _ q) (Nat.le_refl _) ⟨_, e1⟩
  refine I1.laid (a := s.heap.objs.size + 1) (o := .ins C s.heap.objs.size []) (t' := s.toks) (fun b u q => Heap.get?_push_of_some _ q) (Nat.le_of_eq (Heap.size_push _ _)) ?_
  have ne : s.heap.objs.size ≠ s.heap.objs.size + 1 := Nat.ne_of_lt (Nat.lt_succ_self _)
  refine ⟨by rw [upd_ne ne, upd_same], Nat.zero_le _, ne, e2, fun _ => none, (Heap.Ns1.of_empty e3).at fun o q => Heap.get?_push_of_some _ q, fun _ => True.intro, fun y hy => absurd rfl hy⟩

/-- e.f where nothing but the object is asked: through attributeBase (super) and the last hold -/
theorem attr_of {prog : Program} {w : World} {env : Env} {e : Expr} {f : Str} {pos : Pos} {s : Shared} {Q : Value → Shared → Prop} (hb : attributeBase e f env (eval e env) = eval e env)
    (h : wpAny (model prog w) A (eval e env) (fun o s₁ => wpAny (model prog w) A (getAttr o f true) Q E s₁) E s) : wpAny (model prog w) A (eval (.Attribute e f pos) env) Q E s :=
  Attribute_any_ h (by rw [arm_eval_Attribute, hb])
end

/-! ### readings and rules -/
/-- e.f, an attribute of the instance -/
def tFld (K : Fg) (ta : TE) (f : Str) : TE := fun σ H Q => ta σ H fun x H1 => ∃ a C dx fs v, x = .ref a ∧ H1 a = some (.ins C dx fs) ∧ Cls K C ∧ NoAttr K C f ∧ fs.lookup f = some v ∧ Q v H1
/-- e.f = value -/
def sFld (K : Fg) (ta tv : TE) (f : Str) : TS := fun D σ H => tv σ H fun y H1 => ta σ H1 fun x H2 => ∃ a C dx fs, x = .ref a ∧ H2 a = some (.ins C dx fs) ∧ Cls K C ∧ NoAttr K C f ∧ fs.length < 1000 ∧
  D.nx σ (upd H2 a (.ins C dx (putF f y fs)))
section
variable {X : Cx} {o e value : Expr} {f : Str} {pos pos' tpos : Pos} {ta tv : TE}
theorem pe_fld (he : PE X e ta) (hb : attributeBase e f X.env (eval e X.env) = eval e X.env) : PE X (.Attribute e f pos) (tFld X.K ta f) := by
  intro pins s σ H Q I h
  refine attr_of hb (thn (he pins s σ H _ I h) fun u s1 ⟨x, H1, I1, rx, a, C, dx, fs, v, ex, ea, c, n, l, q⟩ => ?_)
  subst ex
  obtain rfl : u = Value.ref a := rx
  exact getattr_ok I1 ea c n l fun u' s2 I2 ru => ⟨v, H1, I2, ru, q⟩
theorem ps_fld (ha : PE X o ta) (hv : PE X value tv) (hs : swapsWith value (some (.Attribute o f pos')) pos.line X.env = pure false) : PS X (.Assign [.Attribute o f pos'] value pos) (sFld X.K ta tv f) := by
  intro pins s σ H D I h
  refine plainObj_wpAny_Assign_Attribute (thn (hv pins s σ H _ I h) fun u s1 ⟨y, H1, I1, ry, q⟩ => thn (ha pins s1 σ H1 _ I1 q) fun ov s2 ⟨x, H2, I2, rx, a, C, dx, fs, ex, ea, c, n, l, q2⟩ => ?_) hs
  subst ex
  obtain rfl : ov = Value.ref a := rx
  exact setattr_ok I2 ea c n l ry fun s3 I3 => ⟨σ, _, I3, q2⟩
end

/-! ### isinstance -/
section
variable {X : Cx} {pins : Pn} {σ : St} {H : Hp} {s : Shared} {A : Around} {E : Value → Shared → Prop} {Q : Value → Shared → Prop} {c : Value} {b : Bool}
/-- the type of a value, as the fragment's deciders take it; for an instance its class -/
inductive TyOf (K : Fg) (H : Hp) : V → Value → Prop where
  | non : TyOf K H .non (.type "NoneType")
  | bl (x : Bool) : TyOf K H (.bl x) (.type "bool")
  | int (i : Int) : TyOf K H (.int i) (.type "int")
  | str (x : Str) : TyOf K H (.str x) (.type "str")
  | flt (x : UInt64) : TyOf K H (.flt x) (.type "float")
  | lst {a : Addr} {xs : List V} (e : H a = some (.lst xs)) : TyOf K H (.ref a) (.type "list")
  | frz {a : Addr} {o : Obj} {xs : List V} (e : H a = some (.frz o (.lst xs))) : TyOf K H (.ref a) (.type "list")
  | tup {a : Addr} {xs : List V} (e : H a = some (.tup xs)) : TyOf K H (.ref a) (.type "tuple")
  | dK {a : Addr} {kvs : List (Key × V)} (e : H a = some (.dK kvs)) : TyOf K H (.ref a) (.type "dict")
  | dT {a : Addr} {kvs : List (List Key × V)} (e : H a = some (.dT kvs)) : TyOf K H (.ref a) (.type "dict")
  | ins {a C dx : Addr} {fs : List (Str × V)} (e : H a = some (.ins C dx fs)) (cl : Cls K C) (ha : PySem.W.findIn K (.ref C) "__class__" = some (some (.builtin "object.__class__")))
      (hn : PySem.W.specialIn K (.builtin "object.__class__") "__get__" = some (some (.builtin "getset_descriptor.__get__"))) (htk : PySem.W.takesIn K (.builtin "object.__class__") = some true)
      (hm : PySem.W.mroIn K C (.type "object") = some true) : TyOf K H (.ref a) (.ref C)
/-- isinstance(x, c) for one class c, a built-in or an own one: kitOne's answer -/
theorem isinst_ok {x : V} {u t : Value} (I : Inv X pins σ H s) (rx : RelV x u) (ty : TyOf X.K H x t) (e : PySem.W.kitOne X.K t c = some b) (h : ∀ tk, Q (.bool b) { s with toks := tk }) :
    wpAny (model X.prog X.w) A (call (.builtin "isinstance") [u, c]) Q E s := by
  cases ty with
  | non => cases (show u = Value.none from rx); exact PySem.W.kia_one PySem.W.kitx_none I.kIn True.intro e (fun z => nomatch z) h
  | bl y => cases (show u = Value.bool y from rx); exact PySem.W.kia_one PySem.W.kitx_bool I.kIn True.intro e (fun z => nomatch z) h
  | int i => obtain ⟨t, q⟩ := (show ∃ t, u = Value.int i t from rx); cases q; exact PySem.W.kia_one PySem.W.kitx_int I.kIn True.intro e (fun z => nomatch z) h
  | str y => obtain ⟨t, q⟩ := (show ∃ t, u = Value.str y t from rx); cases q; exact PySem.W.kia_one PySem.W.kitx_str I.kIn True.intro e (fun z => nomatch z) h
  | flt y => obtain ⟨t, q⟩ := (show ∃ t, u = Value.float y t from rx); cases q; exact PySem.W.kia_one PySem.W.kitx_float I.kIn True.intro e (fun z => nomatch z) h
  | @lst a xs ea =>
    cases (show u = Value.ref a from rx)
    obtain ⟨_, _, n, _, h1⟩ := (show ObjOk X.prog X.w H s.heap a (.lst xs) from I.hok a _ ea)
    exact PySem.W.kia_one PySem.W.kitx_list I.kIn ⟨_, h1, rfl⟩ e (fun z => nomatch z) h
  | @frz a ob xs ea =>
    cases (show u = Value.ref a from rx)
    obtain ⟨_, _, _, n, _, h1⟩ := (show ObjOk X.prog X.w H s.heap a (.frz ob (.lst xs)) from I.hok a _ ea)
    exact PySem.W.kia_one PySem.W.kitx_list I.kIn ⟨_, h1, rfl⟩ e (fun z => nomatch z) h
  | @tup a xs ea =>
    cases (show u = Value.ref a from rx)
    obtain ⟨_, _, _, p⟩ := (show ObjOk X.prog X.w H s.heap a (.tup xs) from I.hok a _ ea)
    obtain ⟨o, h1, h2, _⟩ := p
    exact PySem.W.kia_one PySem.W.kitx_tuple I.kIn ⟨o, h1, h2⟩ e (fun z => nomatch z) h
  | @dK a kvs ea =>
    cases (show u = Value.ref a from rx)
    obtain ⟨_, _, vs, _, p⟩ := (show ObjOk X.prog X.w H s.heap a (.dK kvs) from I.hok a _ ea)
    obtain ⟨o, es, ep, h1, h2, _⟩ := p
    exact PySem.W.kia_one PySem.W.kitx_dict I.kIn ⟨o, h1, h2.1⟩ e (fun z => nomatch z) h
  | @dT a kvs ea =>
    cases (show u = Value.ref a from rx)
    obtain ⟨_, _, xs, _, o, es, ep, h1, h2, _⟩ := (show ObjOk X.prog X.w H s.heap a (.dT kvs) from I.hok a _ ea)
    exact PySem.W.kia_one PySem.W.kitx_dict I.kIn ⟨o, h1, h2.1⟩ e (fun z => nomatch z) h
  | @ins a C dx fs ea cl ha hn htk hm =>
    cases (show u = Value.ref a from rx)
    obtain ⟨mA, O, _⟩ := ins_get I.hok ea
    obtain ⟨od, J, _⟩ := O.look
    exact PySem.W.kia_one (PySem.W.kitx_own (cl.get _) cl.hd ha hn htk hm) I.kIn J e (fun z => nomatch z) h
end
end L2

namespace L2
open PySem PySem.Spec PyProof.Rows

/-! ### room -/
structure Room (k : Nat) (A : Around) : Prop where
  hd : A.handled = none
  dp : A.depth + 3 * k + 5 < recursionLimit
  un : A.units + 16 * k + 200 < cLine
theorem Room.mono {j k : Nat} {A : Around} (r : Room k A) (h : j ≤ k) : Room j A := ⟨r.hd, by have := r.dp; omega, by have := r.un; omega⟩
theorem Room.deeper {k : Nat} {A : Around} (r : Room (k + 1) A) (env : Env) : Room k (A.deeper env) :=
  ⟨r.hd, by have := r.dp; show A.depth + 1 + 3 * k + 5 < _; omega, by have := r.un; show A.units + 3 + 16 * k + 200 < _; omega⟩
theorem make_depth {A : Around} {C : Addr} {us : List Value} {kw : List (Str × Value)} : (A.under (.builtin "type.__call__" ⟨.ref C :: us, kw⟩)).depth = A.depth + 1 := by
  first | rfl | simp [Around.under, Code.weight, Code.isCreation, Code.isGuard, Code.isCaller, Code.frames, Code.isFrame, guardIds]
theorem make_units {A : Around} {C : Addr} {us : List Value} {kw : List (Str × Value)} : (A.under (.builtin "type.__call__" ⟨.ref C :: us, kw⟩)).units = A.units + 1 := by
  first | rfl | simp [Around.under, Code.cUnits, Code.frames, Code.isFrame]
theorem Room.make {k : Nat} {A : Around} (r : Room (k + 1) A) (C : Addr) (us : List Value) (kw : List (Str × Value)) : Room k (A.under (.builtin "type.__call__" ⟨.ref C :: us, kw⟩)) :=
  ⟨r.hd, by have := r.dp; rw [make_depth]; omega, by have := r.un; rw [make_units]; omega⟩
theorem Room.depth {k : Nat} {A : Around} (r : Room k A) : A.depth < recursionLimit := by have := r.dp; omega
theorem Room.units {k : Nat} {A : Around} (r : Room k A) : A.units + 64 < cLine := by have := r.un; omega
theorem Room.units0 {k : Nat} {A : Around} (r : Room k A) : A.units < cLine := by have := r.un; omega

/-! ### argument lists and displays -/
def tNil : TA := fun _ H Q => Q [] H
def tCons (ta : TE) (tr : TA) : TA := fun σ H Q => ta σ H fun x H1 => tr σ H1 fun xs H2 => Q (x :: xs) H2
section
variable {X : Cx} {e : Expr} {es : List Expr} {te : TE} {t : TA} {pos : Pos}
theorem pa_nil : PA X [] tNil := fun _ _ _ _ H Q I h => Calls.spliced_nil ⟨[], H, I, .nil, h⟩
theorem pa_cons (ha : PE X e te) (hr : PA X es t) (hs : starEach (e :: es) X.env = (false, eval e X.env) :: starEach es X.env := by rfl) : PA X (e :: es) (tCons te t) := by
  intro pos pins s σ H Q I h
  rw [hs]
  show wpAny _ _ (spliced ((false, eval e X.env) :: backTo pos (starEach es X.env))) _ _ s
  refine Calls.spliced_cons (thn (ha pins s σ H _ I h) fun u s1 ⟨x, H1, I1, r1, q1⟩ => ?_)
  exact thn (hr pos pins s1 σ H1 _ I1 q1) fun us s2 ⟨xs, H2, I2, r2, q2⟩ => ⟨x :: xs, H2, I2, .cons r1 r2, q2⟩

/-- a tuple, a list of written items -/
def tTup (t : TA) : TE := fun σ H Q => t σ H fun xs H1 => xs.length ≤ sizeLine ∧ ∀ p, H1 p = none → Q (.ref p) (upd H1 p (.tup xs))
def tLst (t : TA) : TE := fun σ H Q => t σ H fun xs H1 => xs.length ≤ sizeLine ∧ ∀ p, H1 p = none → Q (.ref p) (upd H1 p (.lst xs))
theorem pe_tup {x1} (h : PA X es t) : PE X (.Tuple es x1 pos) (tTup t) := by
  intro pins s σ H Q I hq
  refine wpAny_Tuple_spliced (thn (h pos pins s σ H _ I hq) fun us s1 ⟨xs, H1, I1, r, z, q⟩ => ⟨by rw [← r.length]; exact z, ?_⟩)
  have hf : H1 s1.heap.objs.size = none := I1.hok.fresh (Nat.le_refl _)
  refine ⟨.ref s1.heap.objs.size, upd H1 s1.heap.objs.size (.tup xs), I1.laid (t' := s1.toks) (fun b u e => Heap.get?_push_of_some _ e) (Nat.le_refl _) ?_, rfl, q _ hf⟩
  exact ⟨z, us, r, ⟨_, Heap.get?_push_size _ rfl, rfl, _, rfl⟩⟩
theorem pe_lst (h : PA X es t) : PE X (.List es pos) (tLst t) := by
  intro pins s σ H Q I hq
  refine wpAny_List_spliced (thn (h pos pins s σ H _ I hq) fun us s1 ⟨xs, H1, I1, r, z, q⟩ => ⟨by rw [← r.length]; exact z, ?_⟩)
  have hf : H1 s1.heap.objs.size = none := I1.hok.fresh (Nat.le_refl _)
  refine ⟨.ref s1.heap.objs.size, upd H1 s1.heap.objs.size (.lst xs), I1.laid (t' := s1.toks) (fun b u e => Heap.get?_push_of_some _ e) (Nat.le_refl _) ?_, rfl, q _ hf⟩
  exact ⟨z, us, 0, r, Heap.get?_push_size _ rfl⟩
end

/-! ### what a def promises -/
/-- a def's promise: the bound arguments in the parameters' order, the heap, the wanted end, the wanted exception -/
abbrev Sp := List V → Hp → VK → XK → Prop
/-- how an exception lies behind a call (file 08 gives it): the callers' frames, abstract heap and state ahead of the call, the wish, the exception, the state -/
abbrev CXT := List Env → Hp → Shared → XK → Value → Shared → Prop

/-- the state at a call -/
structure Env0 (P : Program) (w : World) (K : Fg) (mg : Str → Option Value) (base : Heap) (A : Around) (outer : List Env) (s : Shared) (H : Hp) : Prop where
  frames : A.frames = some outer
  mod : Mod K mg base
  bs : ∀ b o, base.get? b = some o → s.heap.get? b = some o ∧ H b = none
  bsz : base.objs.size ≤ s.heap.objs.size
  funs : s.heap.FunFrames base outer
  frf : ∀ b ∈ frs outer, H b = none
  hok : HOk P w H s.heap
  bare : AllBare s.gens
/-- a call's end -/
def CE (outer : List Env) (P : Program) (w : World) (H : Hp) (s : Shared) (Q : VK) (u : Value) (s' : Shared) : Prop :=
  ∃ v H', s'.os = s.os ∧ AllBare s'.gens ∧ Un (frs outer) [] H H' s.heap s'.heap ∧ HOk P w H' s'.heap ∧ RelV v u ∧ Q v H'
def CR (CX : CXT) (outer : List Env) (P : Program) (w : World) (H : Hp) (s : Shared) (Q : VK) (E : XK) (r : Result) (s' : Shared) : Prop :=
  match r with
  | .ok (.ret u) => CE outer P w H s Q u s'
  | .ok _ => False
  | .error e => CX outer H s E e s'
structure FnOk (P : Program) (w : World) (K : Fg) (mg : Str → Option Value) (base : Heap) (CX : CXT) (k : Nat) (f : Addr) (fd : FuncData) (ps : List Str) (sp : Sp) : Prop where
  len : ∀ vs H Q E, sp vs H Q E → vs.length = ps.length
  run : ∀ (A : Around) (outer : List Env) (s : Shared) (H : Hp) (args : Args) (us : List Value) (vs : List V) (Q : VK) (E : XK), Room k A → Env0 P w K mg base A outer s H → BindsTo s fd args (ps.zip us) → Vals vs us → sp vs H Q E →
    codeAny (model P w) A (.call (.ref f) args) (CR CX outer P w H s Q E) s
theorem FnOk.mono {P : Program} {w : World} {K : Fg} {mg : Str → Option Value} {base : Heap} {CX : CXT} {j k : Nat} {f : Addr} {fd : FuncData} {ps : List Str} {sp : Sp} (F : FnOk P w K mg base CX j f fd ps sp) (h : j ≤ k) :
    FnOk P w K mg base CX k f fd ps sp := ⟨F.len, fun A outer s H args us vs Q E hr => F.run A outer s H args us vs Q E (hr.mono h)⟩
theorem Env0.make {P : Program} {w : World} {K : Fg} {mg : Str → Option Value} {base : Heap} {A : Around} {outer : List Env} {s : Shared} {H : Hp} (e : Env0 P w K mg base A outer s H) (C : Addr) (us : List Value) (kw : List (Str × Value)) :
    Env0 P w K mg base (A.under (.builtin "type.__call__" ⟨.ref C :: us, kw⟩)) outer s H := ⟨by first | exact e.frames | (simpa [Around.under, Code.envs, Code.isFrame, pushEnvs] using e.frames), e.mod, e.bs, e.bsz, e.funs, e.frf, e.hok, e.bare⟩
section
variable {X : Cx} {pins : Pn} {σ : St} {H : Hp} {s s' : Shared}
/-- from a body: what a callee wants -/
theorem Inv.env0 (I : Inv X pins σ H s) : Env0 X.prog X.w X.K X.mg X.base X.A X.stack s H :=
  ⟨I.ok.frames, I.ok.mod, I.bs, Nat.le_trans I.ok.bsz I.sz, I.stack, I.stkFree, I.hok, I.bare⟩
/-- behind a call -/
theorem Inv.after {Q : VK} {u : Value} (I : Inv X pins σ H s) (h : CE X.stack X.prog X.w H s Q u s') : EP X pins σ Q u s' := by
  obtain ⟨v, H', os, bare, un, hok, r, q⟩ := h
  obtain ⟨hh, g, d, t, os'⟩ := s'
  obtain rfl : os' = s.os := os
  exact ⟨v, H', I.call (h' := hh) (g' := g) (d' := d) (t' := t) (ch := []) un hok bare (fun b z => absurd z (by simp)), r, q⟩
end

/-! ### calls -/
/-- f(..): the written arguments, then the defaults dvs; E: what is wanted of an exception -/
def tCall (sp : Sp) (dvs : List V) (E : XK) (t : TA) : TE := fun σ H Q => t σ H fun vs H1 => sp (vs ++ dvs) H1 Q E
/-- o.m(..) of an instance of the class at C -/
def tMeth (C : Addr) (m : Str) (sp : Sp) (dvs : List V) (E : XK) (ta : TE) (t : TA) : TE := fun σ H Q => ta σ H fun x H1 => ∃ a dx fs, x = .ref a ∧ H1 a = some (.ins C dx fs) ∧ fs.lookup m = none ∧
  t σ H1 fun vs H2 => sp (x :: (vs ++ dvs)) H2 Q E
/-- C(..): a new instance and its dict, then __init__ -/
def tMake (C : Addr) (sp : Sp) (dvs : List V) (E : XK) (t : TA) : TE := fun σ H Q => t σ H fun vs H1 => ∀ x dx, H1 x = none → H1 dx = none → dx ≠ x →
  sp (.ref x :: (vs ++ dvs)) (upd (upd H1 dx (.own x)) x (.ins C dx [])) (fun v H2 => v = .non ∧ Q (.ref x) H2) E

/-- how the parameters are bound: us the positional arguments, kw the keywords' values by name, ds the defaults that fill up -/
def Binds (K : Fg) (fd : FuncData) (ps : List Str) (ds : List Value) : Prop :=
  ∀ (s : Shared) (us : List Value), K.In s.heap → (us ++ ds).length = ps.length → BindsTo s fd ⟨us, []⟩ (ps.zip (us ++ ds))
/-- every parameter is given -/
theorem Binds.all {K : Fg} {fd : FuncData} {ps : List Str} (h : ∀ us : List Value, us.length = ps.length → bindArgs fd ⟨us, []⟩ = pure (ps.zip us)) : Binds K fd ps [] := fun s us _ hl => by
  rw [List.append_nil] at hl ⊢
  exact .of_eq (h us hl)

/-- an exception of a callee reaches what this body wants of exceptions -/
def Passes (CX : CXT) (X : Cx) (E : XK) : Prop := ∀ (pins : Pn) (σ : St) (H : Hp) (s : Shared) (e : Value) (s' : Shared), Inv X pins σ H s → CX X.stack H s E e s' → X.xe e s'

section
variable {X : Cx} {CX : CXT} {k : Nat} {f C : Addr} {fd : FuncData} {ps : List Str} {sp : Sp} {dvs : List V} {ds : List Value} {E : XK} {x m : Str} {p pos apos : Pos} {e o : Expr} {es : List Expr} {ta : TE} {t : TA}

/-- the callee runs -/
theorem run_fn {pins : Pn} {σ : St} {H : Hp} {s : Shared} {Q : VK} {us : List Value} {vs : List V} (F : FnOk X.prog X.w X.K X.mg X.base CX k f fd ps sp) (hr : Room k X.A) (hb : Binds X.K fd ps ds) (hd : Vals dvs ds) (hx : Passes CX X E)
    (I : Inv X pins σ H s) (r : Vals vs us) (h : sp (vs ++ dvs) H Q E) : wpAny (model X.prog X.w) X.A (call (.ref f) us) (EP X pins σ Q) X.xe s := by
  have r2 : Vals (vs ++ dvs) (us ++ ds) := r.append hd
  have hl : (us ++ ds).length = ps.length := by rw [← r2.length]; exact F.len _ _ _ _ h
  refine wpAny_call (codeAny_mono (F.run X.A X.stack s H ⟨us, []⟩ (us ++ ds) (vs ++ dvs) Q E hr I.env0 (hb s us I.kIn hl) r2 h) fun r s' hq => ?_)
  cases r with
  | error e => exact hx pins σ H s e s' I hq
  | ok fl =>
    cases fl with
    | ret u => exact I.after hq
    | next => exact False.elim hq
    | brk => exact False.elim hq
    | cont => exact False.elim hq

theorem pe_call (F : FnOk X.prog X.w X.K X.mg X.base CX k f fd ps sp) (hr : Room k X.A) (hg : Gl X x) (hm : X.mg x = some (.ref f)) (hk : PySem.W.keepIn X.K (.ref f) = true) (hb : Binds X.K fd ps ds) (hd : Vals dvs ds) (hx : Passes CX X E)
    (ha : PA X (e :: es) t) (hdb : (x == ("__debug__" : Str)) = false := by decide) (he : starEach (e :: es) X.env = (false, eval e X.env) :: starEach es X.env := by rfl) (hpl : (backTo pos (starEach es X.env)).any (·.1) = false := by rfl) :
    PE X (.Call (.Name x p) (e :: es) [] pos) (tCall sp dvs E t) := by
  intro pins s σ H Q I h
  refine wpAny_Call_Name_kw (ld_glob I hg hm ?_ hdb)
  refine PySem.W.callWith_K (h₀ := X.base) I.ok.mod.kin hk (thn (ha pos pins s σ H _ I h) fun us s1 ⟨vs, H1, I1, r, q⟩ => ⟨I1.kIn, ?_⟩) he hpl
  exact run_fn F hr hb hd hx I1 r q
/-- o.m(e, ..) -/
theorem pe_meth {pl : Sem Bool} (he : PE X o ta) (c : Cls X.K C) (hm : Meth X.K C m f) (F : FnOk X.prog X.w X.K X.mg X.base CX k f fd ps sp) (hr : Room k X.A) (hb : Binds X.K fd ps ds) (hd : Vals dvs ds) (hx : Passes CX X E) (ha : PA X (e :: es) t)
    (hst : starEach (e :: es) X.env = (false, eval e X.env) :: starEach es X.env := by rfl) (hpl : (backTo pos (starEach es X.env)).any (·.1) = false := by rfl)
    (ht : eval (.Call (.Attribute o m apos) (e :: es) [] pos) X.env = (do
      let ov ← eval o X.env
      standAt apos.atName
      let (f, first) ← holding [ov] (getMethod ov m pl)
      callWith pos f first (backTo pos (starEach (e :: es) X.env)) (backToKw pos (keywordEach [] X.env))) := by rfl) :
    PE X (.Call (.Attribute o m apos) (e :: es) [] pos) (tMeth C m sp dvs E ta t) := by
  intro pins s σ H Q I h
  refine PySem.W.methodCall_KW (pl := pl) (thn (he pins s σ H _ I h) fun u s1 ⟨x, H1, I1, rx, a, dx, fs, ex, ea, l, q⟩ => ?_) ht
  subst ex
  obtain rfl : u = Value.ref a := rx
  refine getmeth_ok I1 ea c hm l ?_
  refine PySem.W.callWith_K (first := [.ref a]) (h₀ := X.base) I.ok.mod.kin hm.kp (thn (ha pos pins s1 σ H1 _ I1 q) fun us s2 ⟨vs, H2, I2, r, q2⟩ => ⟨I2.kIn, ?_⟩) hst hpl
  exact run_fn (us := .ref a :: us) (vs := .ref a :: vs) F hr hb hd hx I2 (.cons rfl r) q2
/-- o.m() -/
theorem pe_meth0 {pl : Sem Bool} (he : PE X o ta) (c : Cls X.K C) (hm : Meth X.K C m f) (F : FnOk X.prog X.w X.K X.mg X.base CX k f fd ps sp) (hr : Room k X.A) (hb : Binds X.K fd ps ds) (hd : Vals dvs ds) (hx : Passes CX X E)
    (ht : eval (.Call (.Attribute o m apos) [] [] pos) X.env = (do
      let ov ← eval o X.env
      standAt apos.atName
      let (f, first) ← holding [ov] (getMethod ov m pl)
      callWith pos f first (backTo pos (starEach [] X.env)) (backToKw pos (keywordEach [] X.env))) := by rfl) :
    PE X (.Call (.Attribute o m apos) [] [] pos) (tMeth C m sp dvs E ta tNil) := by
  intro pins s σ H Q I h
  refine PySem.W.methodCall_KW (pl := pl) (thn (he pins s σ H _ I h) fun u s1 ⟨x, H1, I1, rx, a, dx, fs, ex, ea, l, q⟩ => ?_) ht
  subst ex
  obtain rfl : u = Value.ref a := rx
  refine getmeth_ok I1 ea c hm l ?_
  exact PySem.W.callWith_K0 (first := [.ref a]) I1.kIn hm.kp (run_fn (us := [.ref a]) (vs := [.ref a]) F hr hb hd hx I1 (.cons rfl .nil) q)

/-- what a class must have to be made -/
structure Mk (K : Fg) (C f : Addr) : Prop where
  makes : PySem.W.makesIn K C = true
  init : PySem.W.findIn K (.ref C) "__init__" = some (some (.ref f))
  fn : PySem.W.isFn K (.ref f) = true
  kp : PySem.W.keepIn K (.ref C) = true

theorem run_make {pins : Pn} {σ : St} {H : Hp} {s : Shared} {Q : VK} {us : List Value} {vs : List V} (M : Mk X.K C f) (F : FnOk X.prog X.w X.K X.mg X.base CX k f fd ps sp) (hr : Room (k + 1) X.A) (hb : Binds X.K fd ps ds) (hd : Vals dvs ds)
    (hx : Passes CX X E) (I : Inv X pins σ H s) (r : Vals vs us)
    (h : ∀ x dx, H x = none → H dx = none → dx ≠ x → sp (.ref x :: (vs ++ dvs)) (upd (upd H dx (.own x)) x (.ins C dx [])) (fun v H2 => v = .non ∧ Q (.ref x) H2) E) :
    wpAny (model X.prog X.w) X.A (call (.ref C) us) (EP X pins σ Q) X.xe s := by
  have hq := h (s.heap.objs.size + 1) s.heap.objs.size (I.hok.fresh (Nat.le_succ _)) (I.hok.fresh (Nat.le_refl _)) (Nat.ne_of_lt (Nat.lt_succ_self _))
  have I2 := Inv.made (C := C) I
  have r2 : Vals (V.ref (s.heap.objs.size + 1) :: (vs ++ dvs)) (Value.ref (s.heap.objs.size + 1) :: (us ++ ds)) := .cons rfl (r.append hd)
  have hl : (Value.ref (s.heap.objs.size + 1) :: us ++ ds).length = ps.length := by
    have e := r2.length
    rw [F.len _ _ _ _ hq] at e
    exact e.symm
  refine wpAny_call (make_map (f := f) I.kIn M.makes M.init (beq_iff_eq.mp M.fn) (codeAny_mono (F.run _ X.stack _ _ ⟨Value.ref (s.heap.objs.size + 1) :: us, []⟩ (Value.ref (s.heap.objs.size + 1) :: (us ++ ds)) _ _ E (hr.make C us [])
    (I2.env0.make C us []) (hb _ (Value.ref (s.heap.objs.size + 1) :: us) I2.kIn hl) r2 hq) fun r s' hq' => ?_))
  cases r with
  | error e => exact hx pins σ _ _ e s' I2 hq'
  | ok fl =>
    cases fl with
    | ret u =>
      obtain ⟨v, H', I3, rv, ev, q3⟩ := I2.after hq'
      subst ev
      exact ⟨rv, ⟨V.ref (s.heap.objs.size + 1), H', I3, rfl, q3⟩⟩
    | next => exact False.elim hq'
    | brk => exact False.elim hq'
    | cont => exact False.elim hq'
theorem pe_make (M : Mk X.K C f) (F : FnOk X.prog X.w X.K X.mg X.base CX k f fd ps sp) (hr : Room (k + 1) X.A) (hg : Gl X x) (hm : X.mg x = some (.ref C)) (hb : Binds X.K fd ps ds) (hd : Vals dvs ds) (hx : Passes CX X E)
    (ha : PA X (e :: es) t) (hdb : (x == ("__debug__" : Str)) = false := by decide) (he : starEach (e :: es) X.env = (false, eval e X.env) :: starEach es X.env := by rfl) (hpl : (backTo pos (starEach es X.env)).any (·.1) = false := by rfl) :
    PE X (.Call (.Name x p) (e :: es) [] pos) (tMake C sp dvs E t) := by
  intro pins s σ H Q I h
  refine wpAny_Call_Name_kw (ld_glob I hg hm ?_ hdb)
  refine PySem.W.callWith_K (h₀ := X.base) I.ok.mod.kin M.kp (thn (ha pos pins s σ H _ I h) fun us s1 ⟨vs, H1, I1, r, q⟩ => ⟨I1.kIn, ?_⟩) he hpl
  exact run_make M F hr hb hd hx I1 r q
end

/-! ### keywords -/
section
variable {X : Cx} {CX : CXT} {k : Nat} {f C : Addr} {fd : FuncData} {ps ks : List Str} {sp : Sp} {E : XK} {x m : Str} {p pos apos kpos : Pos} {e o : Expr} {es : List Expr} {kws : List Keyword} {te ta : TE} {t tk : TA} {nm : Option Str}
variable {g : List Value → List Value → List Value} {gV : List V → List V → List V}
end

/-! ### a def's body keeps its promise -/
/-- names: the parameters first -/
structure FnScope (N P : List Str) (sc : Scope) : Prop where
  kind : sc.kind = .function
  co : sc.isCoroutine = false
  gen : sc.isGenerator = false
  nd : N.Nodup
  pre : N.take P.length = P
  par : ∀ x ∈ P, sc.names.lookup x = some .local ∨ sc.names.lookup x = some .cell
  nofree : ∀ y ∈ sc.names, y.2 ≠ .free

theorem bindL_out {kindOf : Str → Option NameKind} {x : Str} : ∀ {binds : List (Str × Value)} {m : Str → Option Value}, (∀ v, (x, v) ∉ binds) → bindL kindOf binds m x = m x
  | [], _, _ => rfl
  | (n, v) :: r, m, h => by
    unfold bindL
    rw [bindL_out fun w hw => h w (List.mem_cons_of_mem _ hw)]
    split
    · have : x ≠ n := by rintro rfl; exact h v List.mem_cons_self
      simp [this]
    · rfl
theorem bindC_out {kindOf : Str → Option NameKind} {x : Str} : ∀ {binds : List (Str × Value)} {m : Str → Option Value}, (∀ v, (x, v) ∉ binds) → bindC kindOf binds m x = m x
  | [], _, _ => rfl
  | (n, v) :: r, m, h => by
    unfold bindC
    rw [bindC_out fun w hw => h w (List.mem_cons_of_mem _ hw)]
    split
    · rfl
    · have : x ≠ n := by rintro rfl; exact h v List.mem_cons_self
      simp [this]
theorem bindL_get {kindOf : Str → Option NameKind} {x : Str} {v : Value} : ∀ {P : List Str} {vs : List Value} {i : Nat} {m : Str → Option Value}, P.Nodup → P[i]? = some x → vs[i]? = some v → kindOf x = some .local →
    bindL kindOf (P.zip vs) m x = some v
  | [], _, _, _, _, h, _, _ => by simp at h
  | _ :: _, [], _, _, _, _, h, _ => by simp at h
  | p :: P, w :: vs, 0, m, nd, h1, h2, hk => by
    simp at h1 h2; subst h1; subst h2
    show bindL kindOf ((p, w) :: P.zip vs) m p = _
    unfold bindL
    rw [bindL_out fun v hv => (List.nodup_cons.mp nd).1 (List.of_mem_zip hv).1, if_pos hk]
    simp
  | p :: P, w :: vs, i + 1, m, nd, h1, h2, hk => by
    show bindL kindOf ((p, w) :: P.zip vs) m x = _
    unfold bindL
    exact bindL_get (i := i) (List.nodup_cons.mp nd).2 (by simpa using h1) (by simpa using h2) hk
theorem bindC_get {kindOf : Str → Option NameKind} {x : Str} {v : Value} : ∀ {P : List Str} {vs : List Value} {i : Nat} {m : Str → Option Value}, P.Nodup → P[i]? = some x → vs[i]? = some v → kindOf x ≠ some .local →
    bindC kindOf (P.zip vs) m x = some v
  | [], _, _, _, _, h, _, _ => by simp at h
  | _ :: _, [], _, _, _, _, h, _ => by simp at h
  | p :: P, w :: vs, 0, m, nd, h1, h2, hk => by
    simp at h1 h2; subst h1; subst h2
    show bindC kindOf ((p, w) :: P.zip vs) m p = _
    unfold bindC
    rw [bindC_out fun v hv => (List.nodup_cons.mp nd).1 (List.of_mem_zip hv).1, if_neg hk]
    simp
  | p :: P, w :: vs, i + 1, m, nd, h1, h2, hk => by
    show bindC kindOf ((p, w) :: P.zip vs) m x = _
    unfold bindC
    exact bindC_get (i := i) (List.nodup_cons.mp nd).2 (by simpa using h1) (by simpa using h2) hk

/-- the names' values at the entry -/
def start (N : List Str) (vs : List V) : St := vs.map some ++ List.replicate (N.length - vs.length) none

/-- the context of a def's body, at its entry; an exception leaves the frame, then lies as CX says -/
def cxOf (CX : CXT) (P : Program) (w : World) (K : Fg) (mg : Str → Option Value) (base : Heap) (N : List Str) (qual : Str) (scope : Scope) (f : Addr) (cd : Value) (A : Around) (outer : List Env) (s : Shared) (H : Hp) (E : XK) : Cx where
  prog := P
  w := w
  K := K
  mg := mg
  base := base
  A := A.deeper (envOfC qual scope s.heap.objs.size f cd)
  N := N
  s₀ := s
  H₀ := H
  env := envOfC qual scope s.heap.objs.size f cd
  outer := outer
  stack := envOfC qual scope s.heap.objs.size f cd :: outer
  ex := []
  calm := true
  fn := fun _ => true
  pn := []
  xe := fun e s' => wpAny (model P w) (A.deeper (envOfC qual scope s.heap.objs.size f cd)) (leaving (envOfC qual scope s.heap.objs.size f cd) e) (fun _ s'' => CX outer H s E e s'') (fun e' s'' => CX outer H s E e' s'') s'

theorem cell_has {sc : Scope} {n : Nat} {x : Str} (h : sc.names.lookup x = some .cell) : ∃ c, (cellsFrom n sc.names []).lookup x = some c := by
  have q := PySem.W.cellsFrom_some sc.names n [] (.inl h)
  exact Option.isSome_iff_exists.mp q

theorem inv_start {CX : CXT} {P : Program} {w : World} {K : Fg} {mg : Str → Option Value} {base : Heap} {N ps : List Str} {qual : Str} {scope : Scope} {f : Addr} {cd : Value} {A : Around} {outer : List Env} {s s1 : Shared} {H : Hp} {E : XK} {us : List Value} {vs : List V}
    (S : FnScope N ps scope) (hd : A.handled = none) (e0 : Env0 P w K mg base A outer s H) (hl : vs.length = ps.length) (r : Vals vs us)
    (x : InCallC s s.heap.objs.size (bindL (envOfC qual scope s.heap.objs.size f cd).kindOf (ps.zip us) fun _ => none) (cellsFrom (s.heap.objs.size + 1) scope.names []) (bindC (envOfC qual scope s.heap.objs.size f cd).kindOf (ps.zip us) fun _ => none) s1) :
    Inv (cxOf CX P w K mg base N qual scope f cd A outer s H E) [] (start N vs) H s1 := by
  have hpl : ps.length ≤ N.length := by have := congrArg List.length S.pre; rw [List.length_take] at this; omega
  obtain ⟨h1, tk, rfl, hk⟩ := x.done
  have noA : ∀ b : Addr, b ∉ (cxOf CX P w K mg base N qual scope f cd A outer s H E).ex := fun b z => absurd (show b ∈ ([] : List Addr) from z) (by simp)
  refine ⟨⟨e0.mod, S.kind, rfl, rfl, Nat.le_refl _, fun y z c h1 h2 => ?_, fun y hy => ?_, fun y c _ h => ?_, fun _ => hd, Around.frames_deeper e0.frames, .inr ⟨rfl, rfl⟩, fun b z => absurd z (noA b), e0.bs, e0.bsz, fun b _ _ => noA b, fun b z => absurd z (noA b), e0.funs, e0.frf⟩,
    rfl, e0.bare, Un.kept hk, ⟨_, x.toInCall.ns, fun i y v h1 h2 h3 => ?_⟩, fun y c h => ⟨_, x.cell y c h⟩, e0.hok.fresh (Nat.le_refl _), fun y c h => ?_, fun p hp => absurd (show p ∈ ([] : Pn) from hp) (by simp), e0.hok.kept hk, ?_⟩
  · exact name_of_addr x.apart (PySem.mem_of_lookup h1) (PySem.mem_of_lookup h2)
  · have hy : scope.names.lookup y = some .cell ∨ scope.names.lookup y = some .free := hy
    rcases hy with hy | hy
    · exact cell_has hy
    · exact absurd rfl (S.nofree _ (PySem.mem_of_lookup hy))
  · exact Nat.le_of_lt (x.above y c (PySem.mem_of_lookup h))
  · have hi : i < vs.length := by
      unfold start at h2
      by_cases hi : i < vs.length
      · exact hi
      · rw [List.getElem?_append_right (by simpa using hi)] at h2
        rw [List.getElem?_replicate] at h2
        split at h2 <;> cases h2
    have ha : vs[i]? = some v := by
      unfold start at h2
      rw [List.getElem?_append_left (by simpa using hi), List.getElem?_map] at h2
      cases e : vs[i]? with
      | none => rw [e] at h2; cases h2
      | some a => rw [e] at h2; cases h2; rfl
    obtain ⟨u, hu, rv⟩ := r.get ha
    have hp : ps[i]? = some y := by
      rw [← S.pre, List.getElem?_take_of_lt (by omega)]; exact h1
    have ndP : ps.Nodup := by rw [← S.pre]; exact S.nd.sublist (List.take_sublist _ _)
    refine ⟨u, rv, ?_⟩
    rcases S.par y (List.mem_of_getElem? hp) with k | k
    · exact .inl ⟨k, bindL_get ndP hp hu k⟩
    · obtain ⟨c, e⟩ := cell_has (n := s.heap.objs.size + 1) k
      refine .inr ⟨.inl k, c, e, ?_⟩
      have q := x.cell y c e
      rw [bindC_get ndP hp hu (by show scope.names.lookup y ≠ _; rw [k]; decide)] at q
      exact q
  · exact e0.hok.fresh (Nat.le_of_lt (x.above y c (PySem.mem_of_lookup h)))
  · unfold start
    show _ = N.length
    rw [List.length_append, List.length_map, List.length_replicate]
    omega

/-- THE RULE: a def (or a method) of the text, by its body. The body's reading t is chosen for each entry; it is run at the parameters' values -/
theorem fn_of {CX : CXT} {P : Program} {w : World} {K : Fg} {mg : Str → Option Value} {base : Heap} {k : Nat} {f : Addr} {name qual : Str} {params : Arguments} {body : List Stmt} {scope : Scope} {dV kV doc pm cdv ct oc : Value} {an od : Option Addr}
    {osl : Array (Option Value)} {N ps : List Str} {sp : Sp} (lk : K.lookup f = some ⟨oc, od, .func (PySem.W.fnOf name qual params body scope dV kV doc pm an cdv ct), osl⟩) (hcd : PySem.W.codeIn K cdv qual = true) (S : FnScope N ps scope)
    (len : ∀ vs H Q E, sp vs H Q E → vs.length = ps.length)
    (hbody : ∀ (A : Around) (outer : List Env) (s : Shared) (H : Hp) (vs : List V) (Q : VK) (E : XK), Room k (A.deeper (envOfC qual scope s.heap.objs.size f cdv)) → sp vs H Q E →
      ∃ t, PSs (cxOf CX P w K mg base N qual scope f cdv A outer s H E) body t ∧ t { nx := fun _ H' => Q .non H', rt := Q } (start N vs) H) :
    FnOk P w K mg base CX (k + 1) f (PySem.W.fnOf name qual params body scope dV kV doc pm an cdv ct) ps sp := by
  refine ⟨len, fun A outer s H args us vs Q E hr e0 hb r hsp => ?_⟩
  have hl := len _ _ _ _ hsp
  have KX : K.In s.heap := e0.mod.kin.keeps fun b o e => (e0.bs b o e).1
  have lim : s.heap.NoLimit := e0.mod.nolimit.keeps fun b o e => (e0.bs b o e).1
  have hkind : ∀ y ∈ ps.zip us, scope.names.lookup y.1 = some .local ∨ (scope.names.lookup y.1 = some .cell ∧ ((cellsFrom (s.heap.objs.size + 1) scope.names []).lookup y.1).isSome = true) := fun ⟨n, v⟩ hy => by
    rcases S.par n (List.of_mem_zip hy).1 with q | q
    · exact .inl q
    · exact .inr ⟨q, PySem.W.cellsFrom_some _ _ _ (.inl q)⟩
  refine codeAny_call_function hr.depth (KX _ _ lk) rfl S.co S.gen rfl (PySem.W.codeRec_of KX hcd) (hb _ _ _ _ ?_)
  refine wpAny_newFunctionEnv_cells S.kind hkind fun env he s1 x => ?_
  subst he
  refine ⟨lim.keeps x.toInCall.keep, codeAny_func ?_⟩
  obtain ⟨t, ht, hq⟩ := hbody A outer s H vs Q E (hr.deeper _) hsp
  have I : Inv (cxOf CX P w K mg base N qual scope f cdv A outer s H E) [] (start N vs) H s1 := inv_start S hr.hd e0 hl r x
  refine wpAny_mono (ht [] s1 (start N vs) H _ I hq) (fun fl s' hs => ?_) fun e s' hs => hs
  have fin : ∀ {σ' : St} {H' : Hp} {v : V} {u : Value}, Inv (cxOf CX P w K mg base N qual scope f cdv A outer s H E) [] σ' H' s' → RelV v u → Q v H' → CE outer P w H s Q u s' :=
    fun {σ' H' v u} J rv q => ⟨v, H', J.os, J.bare, J.base, J.hok, rv, q⟩
  cases fl with
  | ret u =>
    obtain ⟨v, σ', H', J, rv, q⟩ := hs
    exact fin J rv q
  | next =>
    obtain ⟨σ', H', J, q⟩ := hs
    exact fin (v := V.non) (u := Value.none) J rfl q
  | brk =>
    obtain ⟨_, _, _, q⟩ := hs
    exact False.elim q
  | cont =>
    obtain ⟨_, _, _, q⟩ := hs
    exact False.elim q
end L2

namespace L2
open PySem PySem.Spec PyProof.Rows
section
variable {X : Cx} {x : Str} {p pos : Pos} {e : Expr} {es : List Expr} {t : TA} {id T : String} {r : List V → Hp → VK → Prop}

def tCB (r : List V → Hp → VK → Prop) (t : TA) : TE := fun σ H Q => t σ H fun vs H1 => r vs H1 Q
/-- f(e, ..), f a built-in function -/
theorem pe_callB (hc : CallR X (.builtin id) r) (hg : Gl X x) (hm : X.mg x = none) (hv : bootBuiltins x = some (.builtin id)) (ha : PA X (e :: es) t) (hn : x ≠ "__name__" := by decide) (hdb : (x == ("__debug__" : Str)) = false := by decide)
    (he : starEach (e :: es) X.env = (false, eval e X.env) :: starEach es X.env := by rfl) (hpl : (backTo pos (starEach es X.env)).any (·.1) = false := by rfl) : PE X (.Call (.Name x p) (e :: es) [] pos) (tCB r t) := by
  intro pins s σ H Q I h
  refine wpAny_Call_Name_kw (ld_blt I hg hm hv ?_ hn hdb)
  exact PyProof.Rows.callWith_builtin1 (thn (ha pos pins s σ H _ I h) fun us s1 ⟨vs, H1, I1, r1, q1⟩ => hc pins s1 σ H1 vs us Q I1 r1 q1) he hpl
/-- T(e, ..), T a built-in type -/
theorem pe_callTy (hc : CallR X (.type T) r) (hg : Gl X x) (hm : X.mg x = none) (hv : bootBuiltins x = some (.type T)) (ha : PA X (e :: es) t) (hn : x ≠ "__name__" := by decide) (hdb : (x == ("__debug__" : Str)) = false := by decide)
    (he : starEach (e :: es) X.env = (false, eval e X.env) :: starEach es X.env := by rfl) (hpl : (backTo pos (starEach es X.env)).any (·.1) = false := by rfl) : PE X (.Call (.Name x p) (e :: es) [] pos) (tCB r t) := by
  intro pins s σ H Q I h
  refine wpAny_Call_Name_kw (ld_blt I hg hm hv ?_ hn hdb)
  exact PyProof.Rows.callWith_type1 (thn (ha pos pins s σ H _ I h) fun us s1 ⟨vs, H1, I1, r1, q1⟩ => hc pins s1 σ H1 vs us Q I1 r1 q1) he hpl
end
end L2

namespace HT
open PySem PyProof.Rows

section
open PySem.SeqAt
open PySem.AutoSeq1 (wpAny_loadPart')
open PySem.MeetsSeq PySem.MeetsSeq2 PySem.MeetsSeq3

end

section
variable {prog : Program} {w : World} {A : Around} {E : Value → Shared → Prop} {s : Shared}

/-! ### t[a:b], not the whole -/
/-- a slice's bound as a place among n (d where it is left out) -/
def sIx (n d : Nat) : Option Int → Nat
  | none => d
  | some v => if v < 0 then (v + (n : Int)).toNat else min v.toNat n
end
end HT

namespace L2
open PySem PySem.Spec PyProof.Rows

/-! ### the parts of a slice -/
abbrev TO := St → Hp → (Option Int → Hp → Prop) → Prop
/-- a slice's part (left out, or an int) -/
def PO (X : Cx) (e : Option Expr) (t : TO) : Prop :=
  ∀ (pins : Pn) (s : Shared) (σ : St) (H : Hp) (Q : Option Int → Hp → Prop), Inv X pins σ H s → t σ H Q →
    wpAny (model X.prog X.w) X.A (evalPart e X.env) (fun u s' => ∃ o H', Inv X pins σ H' s' ∧ IsPart u o ∧ Q o H') X.xe s
def tNoPart : TO := fun _ H Q => Q none H
def tPart (t : TE) : TO := fun σ H Q => t σ H fun x H1 => ∃ i, x = .int i ∧ Q (some i) H1

section
variable {X : Cx} {e : Expr} {te : TE} {lo hi : Option Expr} {tl th : TO} {pos p2 : Pos}

theorem po_none : PO X none tNoPart := by
  intro pins s σ H Q I h
  rw [evalPart_none]
  exact wpAny_pure ⟨none, H, I, .none, h⟩
theorem po_some (h : PE X e te) : PO X (some e) (tPart te) := by
  intro pins s σ H Q I hw
  rw [evalPart_some]
  refine thn (h pins s σ H _ I hw) fun u s1 ⟨x, H1, I1, r1, q1⟩ => ?_
  obtain ⟨i, rfl, q⟩ := q1
  obtain ⟨t, rfl⟩ := r1
  exact ⟨some i, H1, I1, .int i t, q⟩

/-- what a slice of a value is, by values: the slice object stands at sl -/
def SlR (X : Cx) (r : V → Option Int → Option Int → Hp → VK → Prop) : Prop :=
  ∀ (pins : Pn) (s : Shared) (σ : St) (H : Hp) (x : V) (v vl vu : Value) (lo hi : Option Int) (sl : Addr) (Q : VK), Inv X pins σ H s → RelV x v → s.heap.IsSliceOf sl vl vu .none → IsPart vl lo → IsPart vu hi → r x lo hi H Q →
    ∃ T id, typeLookup (.type T) "__getitem__" = pure (some (.builtin id)) ∧ s.TypeIs v T ∧ wpAny (model X.prog X.w) X.A (getItem v (.ref sl)) (EP X pins σ Q) X.xe s
def tSl (r : V → Option Int → Option Int → Hp → VK → Prop) (te : TE) (tl th : TO) : TE := fun σ H Q => te σ H fun x H1 => tl σ H1 fun l H2 => th σ H2 fun u H3 => r x l u H3 Q
/-- a[lo:hi], any a -/
theorem pe_slice {r : V → Option Int → Option Int → Hp → VK → Prop} (hr : SlR X r) (he : PE X e te) (hl : PO X lo tl) (hu : PO X hi th) : PE X (.Subscript e (.Slice lo hi none p2) pos) (tSl r te tl th) := by
  intro pins s σ H Q I h
  refine Subscript_ (thn (he pins s σ H _ I h) fun v s1 ⟨x, H1, I1, r1, q1⟩ => ?_)
  refine wpAny_Slice (thn (hl pins s1 σ H1 _ I1 q1) fun vl s2 ⟨l, H2, I2, pl, q2⟩ => thn (hu pins s2 σ H2 _ I2 q2) fun vu s3 ⟨u, H3, I3, pu, q3⟩ => ?_)
  rw [evalPart_none]
  refine wpAny_pure ?_
  have I4 : Inv X pins σ H3 { s3 with heap := s3.heap.push { cls := .type "slice", data := .fields #[vl, vu, .none] } } := I3.kept (t' := s3.toks) fun b ob q => Heap.get?_push_of_some _ q
  obtain ⟨T, id, hT, ht, hg⟩ := hr pins { s3 with heap := s3.heap.push { cls := .type "slice", data := .fields #[vl, vu, .none] } } σ H3 x v vl vu l u s3.heap.objs.size Q I4 r1 (Heap.IsSliceOf.new ..) pl pu q3
  show wpAny (model X.prog X.w) X.A (subscriptTail e (.Slice lo hi none p2) v (.ref s3.heap.objs.size)) (EP X pins σ Q) X.xe { s3 with heap := s3.heap.push { cls := .type "slice", data := .fields #[vl, vu, .none] } }
  exact tail_any (ops := [.ref s3.heap.objs.size, v]) ht hT hg (by with_unfolding_all rfl)

/-- the items of xs[lo:hi] -/
def cutV (xs : List V) (lo hi : Option Int) : List V := (xs.drop (HT.sIx xs.length 0 lo)).take (HT.sIx xs.length xs.length hi - HT.sIx xs.length 0 lo)
theorem cutV_length (xs : List V) (lo hi : Option Int) : (cutV xs lo hi).length ≤ xs.length := by
  unfold cutV
  rw [List.length_take, List.length_drop]
  omega
/-! ### t < u, t + u -/
end
end L2

namespace L2
open PySem PySem.Spec PyProof.Rows

/-! ### places -/
/-- the place that an index of any sign means -/
def ixN (n : Nat) (i : Int) : Option Nat := if 0 ≤ i then (if i < n then some i.toNat else none) else if -(n : Int) ≤ i then some (i + n).toNat else none
def atI {α : Type} (xs : List α) (i : Int) : Option α := (ixN xs.length i).bind fun j => xs[j]?
theorem ixN_seq {n : Nat} {i : Int} {j : Nat} (h : ixN n i = some j) : seqIndex? i n = some j ∧ j < n ∧ -(n : Int) ≤ i ∧ i < n := by
  unfold ixN at h
  by_cases h0 : 0 ≤ i
  · rw [if_pos h0] at h
    by_cases h1 : i < n
    · rw [if_pos h1] at h
      have e : i.toNat = j := Option.some.inj h
      exact ⟨by rw [seqIndex_of h0 h1, e], by omega, by omega, h1⟩
    · rw [if_neg h1] at h; cases h
  · rw [if_neg h0] at h
    by_cases h1 : -(n : Int) ≤ i
    · rw [if_pos h1] at h
      have e : (i + n).toNat = j := Option.some.inj h
      exact ⟨by rw [seqIndex_neg (by omega) h1, e], by omega, h1, by omega⟩
    · rw [if_neg h1] at h; cases h
theorem atI_get {α : Type} {xs : List α} {i : Int} {v : α} (h : atI xs i = some v) : ∃ j, seqIndex? i xs.length = some j ∧ xs[j]? = some v ∧ j < xs.length ∧ -(xs.length : Int) ≤ i ∧ i < xs.length := by
  unfold atI at h
  cases e : ixN xs.length i with
  | none => rw [e] at h; cases h
  | some j =>
    rw [e] at h
    obtain ⟨h1, h2, h3, h4⟩ := ixN_seq e
    exact ⟨j, h1, h, h2, h3, h4⟩
theorem atI_nat {α : Type} {xs : List α} {j : Nat} {v : α} (h : xs[j]? = some v) : atI xs (j : Int) = some v := by
  have hj : j < xs.length := (List.getElem?_eq_some_iff.mp h).1
  have e : ixN xs.length (j : Int) = some j := by
    unfold ixN
    rw [if_pos (by omega), if_pos (by omega)]; simp
  unfold atI; rw [e]; exact h
/-! ### what may be subscripted -/
/-- what stands as an index of a plain subscript -/
def PlainIx (b : Expr) : Prop := ∀ o i, subscripted b false o i = operate [o, i] (getItem o i)
/-- a subscript by values -/
def IxR (X : Cx) (r : R2) : Prop :=
  ∀ (value slice : Expr) (pins : Pn) (s : Shared) (σ : St) (H : Hp) (x y : V) (v u : Value) (Q : VK), Inv X pins σ H s → RelV x v → RelV y u → r x y H Q →
    subscripted slice false v u = operate [v, u] (getItem v u) → wpAny (model X.prog X.w) X.A (subscriptTail value slice v u) (EP X pins σ Q) X.xe s
/-- a call of a builtin's method by values: the receiver, the arguments -/
def MtR (X : Cx) (id : String) (r : V → List V → Hp → VK → Prop) : Prop :=
  ∀ (pins : Pn) (s : Shared) (σ : St) (H : Hp) (x : V) (xs : List V) (v : Value) (us : List Value) (Q : VK), Inv X pins σ H s → RelV x v → Vals xs us → r x xs H Q →
    wpAny (model X.prog X.w) X.A (call (.builtin id) (v :: us)) (EP X pins σ Q) X.xe s
section
variable {X : Cx} {a b : Expr} {ta tb : TE} {pos : Pos}
/-- a[b] -/
theorem pe_ix {r : R2} (hr : IxR X r) (ha : PE X a ta) (hb : PE X b tb) (hs : PlainIx b) : PE X (.Subscript a b pos) (tOp r ta tb) := by
  intro pins s σ H Q I h
  exact Subscript_ (binT ha hb I h fun v u s2 x y H2 I2 rx ry q => hr a b pins s2 σ H2 x y v u Q I2 rx ry q (hs _ _))

def rIxL (K : Fg) : R2 := fun x y H Q => ∃ p xs i v, x = .ref p ∧ y = .int i ∧ SqL K H p xs ∧ atI xs i = some v ∧ Q v H
def rIxT (K : Fg) : R2 := fun x y H Q => ∃ p xs i v, x = .ref p ∧ y = .int i ∧ SqT K H p xs ∧ atI xs i = some v ∧ Q v H
def rIxS : R2 := fun x y H Q => ∃ z i c, x = .str z ∧ y = .int i ∧ z.length ≤ sizeLine ∧ atI z.cps.toList i = some c ∧ Q (.str ⟨#[c]⟩) H
theorem ix_list : IxR X (rIxL X.K) := by
  intro value slice pins s σ H x y v u Q I rx ry h hs
  obtain ⟨p, xs, i, z, rfl, rfl, hq, he, q⟩ := h
  cases rx
  obtain ⟨t, rfl⟩ := ry
  obtain ⟨its, r, pl, hz⟩ := I.list hq
  obtain ⟨j, h1, h2, h3, h4, h5⟩ := atI_get he
  obtain ⟨w, ew, rw'⟩ := r.get h2
  have hl := r.length
  have hn := line63
  have fin : EP X pins σ Q w s := ⟨z, H, I, rw', q⟩
  by_cases h0 : 0 ≤ i
  · have hj : i.toNat = j := by
      rw [seqIndex_of h0 h5] at h1
      exact Option.some.inj h1
    exact item_listR pl.isList h0 (by omega) (by rw [hj]; simpa using ew) fin hs
  · have hj : (i + (its.toArray.size : Int)).toNat = j := by
      rw [seqIndex_neg (by omega) h4] at h1
      rw [List.size_toArray, ← hl]
      exact Option.some.inj h1
    exact subscriptTail_builtinR (x := w) pl.isList.typeIs slot_list_getitem.lookup
      (wpAny_getItem_list_neg (Q := fun r s' => r = w ∧ EP X pins σ Q r s') pl.isList (by omega) (by rw [List.size_toArray] <;> omega) (by omega) (by rw [hj]; simpa using ew) ⟨rfl, fin⟩) hs
theorem ix_tup : IxR X (rIxT X.K) := by
  intro value slice pins s σ H x y v u Q I rx ry h hs
  obtain ⟨p, xs, i, z, rfl, rfl, hq, he, q⟩ := h
  cases rx
  obtain ⟨t, rfl⟩ := ry
  obtain ⟨its, r, pl, hz⟩ := I.tuple hq
  obtain ⟨j, h1, h2, h3, h4, h5⟩ := atI_get he
  obtain ⟨w, ew, rw'⟩ := r.get h2
  have hl := r.length
  have hn := line63
  have fin : EP X pins σ Q w s := ⟨z, H, I, rw', q⟩
  exact subscriptTail_builtinR (x := w) pl.typeIs slot_tuple_getitem.lookup
    (getItem_tuple (j := j) (Q := fun r s' => r = w ∧ EP X pins σ Q r s') pl (by omega) (by omega) (by rw [List.size_toArray, ← hl]; exact h1) (by simpa using ew) ⟨rfl, fin⟩) hs
theorem ix_str : IxR X rIxS := by
  intro value slice pins s σ H x y v u Q I rx ry h hs
  obtain ⟨z, i, c, rfl, rfl, hz, he, q⟩ := h
  obtain ⟨t, rfl⟩ := rx
  obtain ⟨t', rfl⟩ := ry
  obtain ⟨j, h1, h2, h3, h4, h5⟩ := atI_get he
  have hl : z.cps.toList.length = z.length := by simp [Str.length]
  rw [hl] at h1 h4 h5
  have hn := line63
  exact tail_any (typeIs_str s z t) slot_str_getitem.lookup (getItem_str (c := c) (by
    have e1 : decide (i < -(2 ^ 63 : Int)) = false := decide_eq_false (by omega)
    have e2 : decide (i ≥ 2 ^ 63) = false := decide_eq_false (by omega)
    rw [e1, e2, Bool.or_false]) (by rw [h1]; simpa using h2) ⟨.str ⟨#[c]⟩, H, I.tok _, ⟨_, rfl⟩, q⟩) hs
/-! ### xs[i] = v, any sign -/
/-- the list's object behind a store -/
theorem mapSeq_set (its : List Value) (n j : Nat) (u : Value) : Obj.mapSeq (·.setIfInBounds j u) { cls := .type "list", data := .seq its.toArray n } = { cls := .type "list", data := .seq (its.set j u).toArray n } := by
  simp [Obj.mapSeq]
theorem Inv.lst {pins : Pn} {σ : St} {H : Hp} {s : Shared} {p : Addr} {xs : List V} (I : Inv X pins σ H s) (h : H p = some (.lst xs)) :
    ∃ (its : List Value) (n : Nat), Vals xs its ∧ s.heap.get? p = some { cls := .type "list", data := .seq its.toArray n } ∧ xs.length ≤ sizeLine := by
  obtain ⟨z, its, n, r, e⟩ := I.hok p _ h
  exact ⟨its, n, r, e, z⟩
/-- the list at p is written by an update of its object -/
theorem Inv.lstUpd {pins : Pn} {σ : St} {H : Hp} {s : Shared} {p : Addr} {xs ys : List V} {its its' : List Value} {n n' : Nat} {f : Obj → Obj} (I : Inv X pins σ H s) (h : H p = some (.lst xs))
    (ho : s.heap.get? p = some { cls := .type "list", data := .seq its.toArray n }) (hf : f { cls := .type "list", data := .seq its.toArray n } = { cls := .type "list", data := .seq its'.toArray n' }) (r : Vals ys its') (hz : ys.length ≤ sizeLine) (t : Nat) :
    Inv X pins σ (upd H p (.lst ys)) { s with heap := s.heap.update p f, toks := t } := by
  have e : (s.heap.update p f).get? p = some { cls := .type "list", data := .seq its'.toArray n' } := by
    rw [Heap.get?_update_self f ho (by rw [hf] <;> rfl), hf]
  refine I.write (x := p) (e := p) (by rw [h]; trivial) (.inl rfl) (fun b u hb q => (Heap.get?_update_other _ _ (Ne.symm hb)).trans q) ⟨_, e⟩ ?_
  exact ⟨hz, its', n', r, e⟩
def rSetL : V → V → V → Hp → (Hp → Prop) → Prop := fun o i v H Q => ∃ p xs k j, o = .ref p ∧ i = .int k ∧ H p = some (.lst xs) ∧ ixN xs.length k = some j ∧ Q (upd H p (.lst (xs.set j v)))
theorem set_list : PSet X rSetL := by
  intro pins s σ H o i v ov iv u Q I ro ri rv h
  obtain ⟨p, xs, k, j, rfl, rfl, hp, hj, q⟩ := h
  cases ro
  obtain ⟨t, rfl⟩ := ri
  obtain ⟨its, n, r, ho, hz⟩ := I.lst hp
  obtain ⟨h1, h2, h3, h4⟩ := ixN_seq hj
  have hl := r.length
  have hn := line63
  have I' : Inv X pins σ (upd H p (.lst (xs.set j v))) { s with heap := s.heap.update p (Obj.mapSeq (·.setIfInBounds j u)) } :=
    I.lstUpd hp ho (mapSeq_set its n j u) (r.set rv j) (by rw [List.length_set]; exact hz) s.toks
  by_cases h0 : 0 ≤ k
  · have hk : k.toNat = j := by
      rw [seqIndex_of h0 h4] at h1
      exact Option.some.inj h1
    exact PySem.W.ki_setAt ho h0 (by omega) (by rw [List.size_toArray, ← hl]; exact h4) (by rw [hk]; exact ⟨_, I', q⟩)
  · have hk : (k + (its.toArray.size : Int)).toNat = j := by
      rw [seqIndex_neg (by omega) h3] at h1
      rw [List.size_toArray, ← hl]
      exact Option.some.inj h1
    exact PySem.W.ki_setBack ho (by omega) (by rw [List.size_toArray, ← hl]; exact h3) (by omega) (by rw [hk]; exact ⟨_, I', q⟩)

/-! ### slices -/
theorem slice_bounds (lo hi : Option Int) (n : Nat) : (sliceBounds lo hi none n).1 = ((HT.sIx n 0 lo : Nat) : Int) ∧ (sliceBounds lo hi none n).2.1 = ((HT.sIx n n hi : Nat) : Int) ∧ (sliceBounds lo hi none n).2.2 = 1 := by
  refine ⟨?_, ?_, rfl⟩
  · cases lo with
    | none => simp [sliceBounds, HT.sIx]
    | some i =>
      simp only [sliceBounds, HT.sIx, Option.getD_none, show (1 : Int) > 0 by decide, if_true]
      by_cases h : i < 0
      · simp only [h, if_true] <;> omega
      · simp only [h, if_false] <;> omega
  · cases hi with
    | none => simp [sliceBounds, HT.sIx]
    | some i =>
      simp only [sliceBounds, HT.sIx, Option.getD_none, show (1 : Int) > 0 by decide, if_true]
      by_cases h : i < 0
      · simp only [h, if_true] <;> omega
      · simp only [h, if_false] <;> omega
theorem slicePick_cut (its : List Value) (lo hi : Option Int) : slicePick its.toArray lo hi none = ((its.drop (HT.sIx its.length 0 lo)).take (HT.sIx its.length its.length hi - HT.sIx its.length 0 lo)).toArray := by
  obtain ⟨h1, h2, h3⟩ := slice_bounds lo hi its.toArray.size
  unfold slicePick
  rw [h1, h2, h3]
  simp only [sliceRange_one, pick_run, List.size_toArray] <;> rfl
/-- xs[lo:hi] of a list: a new list -/
def rSlL (K : Fg) : V → Option Int → Option Int → Hp → VK → Prop := fun x lo hi H Q => ∃ a xs, x = .ref a ∧ SqL K H a xs ∧ ∀ p, H p = none → Q (.ref p) (upd H p (.lst (cutV xs lo hi)))
theorem sl_list : SlR X (rSlL X.K) := by
  intro pins s σ H x v vl vu lo hi sl Q I rx hs pl pu h
  obtain ⟨a, xs, rfl, hx, q⟩ := h
  cases rx
  obtain ⟨its, r, ht, hz⟩ := I.list hx
  have hlen := r.length
  refine ⟨"list", _, slot_list_getitem.lookup, ht.isList.typeIs, ?_⟩
  refine wpAny_getItem_list_slice ht.isList hs pl pu .none (by simp) ?_ (by rw [List.size_toArray] <;> omega)
  rw [slicePick_cut, ← hlen]
  refine ⟨.ref s.heap.objs.size, _, I.laid (t' := s.toks) (o := .lst (cutV xs lo hi)) (fun b ob q => Heap.get?_push_of_some _ q) (Nat.le_refl _) ?_, rfl, q _ (I.hok.fresh (Nat.le_refl _))⟩
  exact ⟨Nat.le_trans (cutV_length xs lo hi) hz, _, 0, (r.drop (HT.sIx xs.length 0 lo)).take (HT.sIx xs.length xs.length hi - HT.sIx xs.length 0 lo), Heap.get?_push_size _ rfl⟩

/-! ### in, not in: flat items -/
def flatV : V → Bool
  | .non => true
  | .bl _ => true
  | .int _ => true
  | .str _ => true
  | _ => false
/-- == of flat values -/
def eqV : V → V → Bool
  | .non, .non => true
  | .bl a, .bl b => a == b
  | .bl a, .int b => (if a then 1 else 0) == b
  | .int a, .bl b => a == (if b then 1 else 0)
  | .int a, .int b => a == b
  | .str a, .str b => a == b
  | _, _ => false
theorem eqAt_V {A : Around} {s : Shared} {y x : V} {u v : Value} (ry : RelV y u) (rx : RelV x v) (fy : flatV y = true) (fx : flatV x = true) : SeqAt.EqAt A s u v (eqV y x) := by
  cases y with
  | non =>
    cases ry
    cases x with
    | non => cases rx; exact SeqAt.EqAt.same _
    | bl b => cases rx; exact SeqAt.EqAt.none_bool b
    | int b => obtain ⟨t, rfl⟩ := rx; exact SeqAt.EqAt.none_int b t
    | str b => obtain ⟨t, rfl⟩ := rx; exact SeqAt.EqAt.none_str b t
    | _ => exact absurd (show false = true from fx) Bool.false_ne_true
  | bl a =>
    cases ry
    cases x with
    | non => cases rx; exact SeqAt.EqAt.bool_none a
    | bl b => cases rx; exact SeqAt.EqAt.bool_bool a b
    | int b => obtain ⟨t, rfl⟩ := rx; exact SeqAt.EqAt.bool_int a b t
    | str b => obtain ⟨t, rfl⟩ := rx; exact SeqAt.EqAt.bool_str a b t
    | _ => exact absurd (show false = true from fx) Bool.false_ne_true
  | int a =>
    obtain ⟨t', rfl⟩ := ry
    cases x with
    | non => cases rx; exact SeqAt.EqAt.int_none a t'
    | bl b => cases rx; exact SeqAt.EqAt.int_bool a t' b
    | int b => obtain ⟨t, rfl⟩ := rx; exact SeqAt.EqAt.int_int a t' b t
    | str b => obtain ⟨t, rfl⟩ := rx; exact SeqAt.EqAt.int_str a t' b t
    | _ => exact absurd (show false = true from fx) Bool.false_ne_true
  | str a =>
    obtain ⟨t', rfl⟩ := ry
    cases x with
    | non => cases rx; exact SeqAt.EqAt.str_none a t'
    | bl b => cases rx; exact SeqAt.EqAt.str_bool a t' b
    | int b => obtain ⟨t, rfl⟩ := rx; exact SeqAt.EqAt.str_int a t' b t
    | str b => obtain ⟨t, rfl⟩ := rx; exact SeqAt.EqAt.str_str a t' b t
    | _ => exact absurd (show false = true from fx) Bool.false_ne_true
  | _ => exact absurd (show false = true from fy) Bool.false_ne_true
/-- the items' answers, read off the values (a value's own answer does not lean on its token) -/
def eqU (x : V) (u : Value) : Bool := match u with
  | .none => eqV .non x
  | .bool b => eqV (.bl b) x
  | .int i _ => eqV (.int i) x
  | .str z _ => eqV (.str z) x
  | _ => false
theorem eqU_of {x y : V} {u : Value} (r : RelV y u) (f : flatV y = true) : eqU x u = eqV y x := by
  cases y with
  | non => cases r; rfl
  | bl b => cases r; rfl
  | int i => obtain ⟨t, rfl⟩ := r; rfl
  | str z => obtain ⟨t, rfl⟩ := r; rfl
  | _ => exact absurd (show false = true from f) Bool.false_ne_true
theorem any_eqU {x : V} : ∀ {xs : List V} {us : List Value}, Vals xs us → xs.all flatV = true → us.any (eqU x) = xs.any fun y => eqV y x
  | _, _, .nil, _ => rfl
  | y :: xs, u :: us, .cons r t, f => by
    rw [List.all_cons, Bool.and_eq_true] at f
    rw [List.any_cons, List.any_cons, eqU_of r f.1, any_eqU t f.2]
theorem mem_eqAt {A : Around} {s : Shared} {x : V} {v : Value} (rx : RelV x v) (fx : flatV x = true) : ∀ {xs : List V} {us : List Value}, Vals xs us → xs.all flatV = true → ∀ u ∈ us, SeqAt.EqAt A s u v (eqU x u)
  | _, _, .nil, _ => fun u hu => by cases hu
  | y :: xs, u :: us, .cons r t, f => fun u' hu => by
    rw [List.all_cons, Bool.and_eq_true] at f
    rcases List.mem_cons.mp hu with rfl | hu
    · rw [eqU_of r f.1]; exact eqAt_V r rx f.1 fx
    · exact mem_eqAt rx fx t f.2 u' hu
def inV (x : V) (xs : List V) : Bool := xs.any fun y => eqV y x
/-- x in a list or tuple of flat items -/
def rIn (K : Fg) (neg : Bool) : R2 := fun x y H Q => ∃ p xs, y = .ref p ∧ (SqL K H p xs ∨ SqT K H p xs) ∧ flatV x = true ∧ xs.all flatV = true ∧ Q (.bl (if neg then !inV x xs else inV x xs)) H
theorem op_in_seq : OpR X (compareOp .In) (rIn X.K false) := by
  intro pins s σ H x y v u Q I rx ry h
  obtain ⟨p, xs, rfl, hq, fx, fs, q⟩ := h
  cases ry
  rcases hq with hq | hq
  · obtain ⟨its, r, pl, hz⟩ := I.list hq
    refine SeqAt.in_listAt (eqU x) pl.isList (fun w hw => mem_eqAt rx fx r fs w (by simpa using hw)) ⟨.bl _, H, I, rfl, ?_⟩
    rw [show its.toArray.any (eqU x) = its.any (eqU x) by simp, any_eqU r fs]
    exact q
  · obtain ⟨its, r, pl, hz⟩ := I.tuple hq
    refine SeqAt.in_tupleAt (eqU x) pl (fun w hw => mem_eqAt rx fx r fs w (by simpa using hw)) ⟨.bl _, H, I, rfl, ?_⟩
    rw [show its.toArray.any (eqU x) = its.any (eqU x) by simp, any_eqU r fs]
    exact q
theorem op_notIn_seq : OpR X (compareOp .NotIn) (rIn X.K true) := by
  intro pins s σ H x y v u Q I rx ry h
  obtain ⟨p, xs, rfl, hq, fx, fs, q⟩ := h
  cases ry
  rcases hq with hq | hq
  · obtain ⟨its, r, pl, hz⟩ := I.list hq
    refine SeqAt.notIn_listAt (eqU x) pl.isList (fun w hw => mem_eqAt rx fx r fs w (by simpa using hw)) ⟨.bl _, H, I, rfl, ?_⟩
    rw [show its.toArray.any (eqU x) = its.any (eqU x) by simp, any_eqU r fs]
    exact q
  · obtain ⟨its, r, pl, hz⟩ := I.tuple hq
    refine SeqAt.notIn_tupleAt (eqU x) pl (fun w hw => mem_eqAt rx fx r fs w (by simpa using hw)) ⟨.bl _, H, I, rfl, ?_⟩
    rw [show its.toArray.any (eqU x) = its.any (eqU x) by simp, any_eqU r fs]
    exact q
theorem op_notIn_str : OpR X (compareOp .NotIn) (fun x y H Q => ∃ i j, x = .str i ∧ y = .str j ∧ Q (.bl (!(!(Builtin.Str.occurrences j i 0 j.length 1).isEmpty))) H) := by
  intro pins s σ H x y v u Q I rx ry h
  obtain ⟨i, j, rfl, rfl, q⟩ := h
  obtain ⟨t, rfl⟩ := rx
  obtain ⟨t', rfl⟩ := ry
  exact notIn_str ⟨.bl _, H, I, rfl, q⟩

/-! ### len, list(x), tuple(x) of any list or tuple that is read -/
theorem call_len_seq : CallR X (.builtin "len") (fun xs H Q => ∃ p ys, xs = [.ref p] ∧ (SqL X.K H p ys ∨ SqT X.K H p ys) ∧ Q (.int ys.length) H) := by
  intro pins s σ H xs us Q I r h
  obtain ⟨p, ys, rfl, hq, q⟩ := h
  obtain ⟨u, rfl, rx⟩ := vals1 r
  cases rx
  have hn := line63
  rcases hq with hq | hq
  · obtain ⟨its, r', pl, hz⟩ := I.list hq
    have hlen := r'.length
    exact Calls.call_len_list pl.isList (by simp only [List.size_toArray] <;> omega) ⟨.int ys.length, H, I.tok _, ⟨s.toks + 1, by rw [List.size_toArray, hlen]⟩, q⟩
  · obtain ⟨its, r', pl, hz⟩ := I.tuple hq
    have hlen := r'.length
    exact len_tuple pl (by simp only [List.size_toArray] <;> omega) ⟨.int ys.length, H, I.tok _, ⟨s.toks + 1, by rw [List.size_toArray, hlen]⟩, q⟩
theorem call_len_str : CallR X (.builtin "len") (fun xs H Q => ∃ z, xs = [.str z] ∧ z.length ≤ sizeLine ∧ Q (.int z.length) H) := by
  intro pins s σ H xs us Q I r h
  obtain ⟨z, rfl, hz, q⟩ := h
  obtain ⟨u, rfl, t, rfl⟩ := vals1 r
  have hn := line63
  exact len_str (by omega) ⟨.int z.length, H, I.tok _, ⟨_, rfl⟩, q⟩
/-! ### the call of a builtin's method: o.m(..) -/
/-- the value is of that builtin type -/
def tyV (K : Fg) (T : String) (x : V) (H : Hp) : Prop := match x with
  | .str _ => T = "str"
  | .int _ => T = "int"
  | .ref p => (T = "list" ∧ ∃ xs, SqL K H p xs) ∨ (T = "tuple" ∧ ∃ o, K.lookup p = some o ∧ o.cls = .type "tuple" ∧ o.dict = none) ∨
      (T = "dict" ∧ ((∃ kvs, H p = some (.dK kvs)) ∨ ∃ kvs, H p = some (.dT kvs))) ∨ (T = "set" ∧ ∃ S n, H p = some (.set S n))
  | _ => False
theorem tyV_is {pins : Pn} {σ : St} {H : Hp} {s : Shared} {T : String} {x : V} {v : Value} (I : Inv X pins σ H s) (r : RelV x v) (ty : tyV X.K T x H) :
    s.TypeIs v T ∧ ∀ a, v = .ref a → ∃ ob, s.heap.get? a = some ob ∧ ob.dict = none := by
  cases x with
  | str z =>
    obtain ⟨t, rfl⟩ := r
    cases (show T = "str" from ty)
    exact ⟨typeIs_str s z t, fun _ e => nomatch e⟩
  | int i =>
    obtain ⟨t, rfl⟩ := r
    cases (show T = "int" from ty)
    exact ⟨typeIs_int s i t, fun _ e => nomatch e⟩
  | ref p =>
    cases r
    rcases ty with ⟨rfl, xs, hq⟩ | ⟨rfl, o, hk, hc, hd⟩ | ⟨rfl, hk⟩ | ⟨rfl, S, n, hk⟩
    · obtain ⟨its, _, pl, _⟩ := I.list hq
      refine ⟨pl.isList.typeIs, fun a e => ?_⟩
      cases e
      obtain ⟨o, n, e, c, hd, _⟩ := pl
      exact ⟨o, e, hd⟩
    · refine ⟨⟨o, I.kIn p o hk, hc⟩, fun a e => ?_⟩
      cases e
      exact ⟨o, I.kIn _ o hk, hd⟩
    · have z : ∃ o, s.heap.get? p = some o ∧ o.ExactDict := by
        rcases hk with ⟨kvs, hk⟩ | ⟨kvs, hk⟩
        · obtain ⟨_, _, _, _, o, _, _, e, ex, _⟩ := I.hok p _ hk
          exact ⟨o, e, ex⟩
        · obtain ⟨_, _, _, _, o, _, _, e, ex, _⟩ := I.hok p _ hk
          exact ⟨o, e, ex⟩
      obtain ⟨o, e, ex⟩ := z
      refine ⟨⟨o, e, ex.1⟩, fun a e2 => ?_⟩
      cases e2
      exact ⟨o, e, ex.2.1⟩
    · obtain ⟨o, _, _, _, e, ex, _⟩ := I.hok p _ hk
      refine ⟨⟨o, e, ex.1⟩, fun a e2 => ?_⟩
      cases e2
      exact ⟨o, e, ex.2.1⟩
  | _ => exact False.elim ty
def tBM (K : Fg) (T : String) (r : V → List V → Hp → VK → Prop) (to : TE) (t : TA) : TE := fun σ H Q => to σ H fun x H1 => tyV K T x H1 ∧ t σ H1 fun xs H2 => r x xs H2 Q
variable {o e : Expr} {es : List Expr} {to : TE} {t : TA} {name : Str} {apos cpos : Pos} {T id : String} {r : V → List V → Hp → VK → Prop}
theorem pe_bm (pa : PlainAttrs T) (slot : Slot T name id) (hty : typeOf (.builtin id) = pure (.type "method_descriptor")) (hm : MtR X id r) (ho : PE X o to) (ha : PA X (e :: es) t)
    (hbase : attributeBase o name X.env (eval o X.env) = eval o X.env := by rfl)
    (hfew : ((backTo cpos (starEach (e :: es) X.env)).all (fun x => !x.1) && (backToKw cpos (keywordEach [] X.env)).all (fun x => x.1.isSome)
      && decide ((e :: es).length + ([] : List Keyword).length + (if ([] : List Keyword).isEmpty then 0 else 1) < 30)) = true := by rfl)
    (hline : (apos.endLine == cpos.line) = true := by rfl) (hs : starEach (e :: es) X.env = (false, eval e X.env) :: starEach es X.env := by rfl) (hplain : (backTo cpos (starEach es X.env)).any (·.1) = false := by rfl) :
    PE X (.Call (.Attribute o name apos) (e :: es) [] cpos) (tBM X.K T r to t) := by
  intro pins s σ H Q I h
  refine wpAny_Call_method_late hbase hfew hline rfl (thn (ho pins s σ H _ I h) fun v s1 ⟨x, H1, I1, r1, ty, q1⟩ => ?_)
  obtain ⟨h1, h2⟩ := tyV_is I1 r1 ty
  refine ⟨T, id, pa, slot, hty, h1, h2, ?_⟩
  have hA := ha cpos pins s1 σ H1 _ I1 q1
  rw [hs] at hA ⊢
  refine Calls.callWith_builtin (by show (false || (backTo cpos (starEach es X.env)).any (·.1)) = false; rw [hplain] <;> rfl) (Calls.evalArgs_plain ?_)
  exact thn hA fun us s2 ⟨vs, H2, I2, r2, q2⟩ => hm pins s2 σ H2 x vs v us Q I2 r1 r2 q2
/- xs.append(e), list.index on a module's tuple .. are MtR facts of 06m -/
end
end L2

namespace L2
open PySem PySem.Spec PyProof.Rows

def MtM (X : Cx) (id : String) (r : V → List V → Hp → VK → Prop) : Prop :=
  ∀ (pins : Pn) (s : Shared) (σ : St) (H : Hp) (x : V) (xs : List V) (v : Value) (us : List Value) (Q : VK), Inv X pins σ H s → RelV x v → Vals xs us → r x xs H Q →
    wpAny (model X.prog X.w) X.A (call (.builtin id) (v :: us)) (EP X pins σ Q) X.xe s

/-! ### lists of values -/
theorem Vals.one : ∀ {x : V} {us : List Value}, Vals [x] us → ∃ u, us = [u] ∧ RelV x u
  | _, _, .cons r .nil => ⟨_, rfl, r⟩
theorem Vals.rep {xs : List V} {us : List Value} (h : Vals xs us) : ∀ k : Nat, Vals (List.replicate k xs).flatten (List.replicate k us).flatten
  | 0 => .nil
  | k + 1 => by
    rw [List.replicate_succ, List.replicate_succ, List.flatten_cons, List.flatten_cons]
    exact Vals.append h (Vals.rep h k)
theorem foldl_rep (its : List Value) : ∀ (k : Nat) (acc : List Value),
    List.foldl (fun x1 x2 => x1 ++ x2) acc.toArray (List.replicate k its.toArray) = (acc ++ (List.replicate k its).flatten).toArray
  | 0, acc => by simp
  | k + 1, acc => by
    have e : acc.toArray ++ its.toArray = (acc ++ its).toArray := by simp
    have e2 : (acc ++ its) ++ (List.replicate k its).flatten = acc ++ (List.replicate (k + 1) its).flatten := by
      rw [List.replicate_succ, List.flatten_cons, List.append_assoc]
    rw [← e2, ← foldl_rep its k (acc ++ its), ← e, List.replicate_succ, List.foldl_cons]

section
variable {X : Cx} {pins : Pn} {σ : St} {H : Hp} {s : Shared} {l b : Addr} {xs ys zs : List V}

/-! ### the two steps: a tracked list is rewritten, a new list is laid -/
theorem Inv.lnew {its : List Value} {t' : Nat} (I : Inv X pins σ H s) (hv : Vals ys its) (hz : ys.length ≤ sizeLine) :
    Inv X pins σ (upd H s.heap.objs.size (.lst ys)) { s with heap := s.heap.push { cls := .type "list", data := .seq its.toArray }, toks := t' } :=
  I.laid (fun _ _ q => Heap.get?_push_of_some _ q) (Nat.le_refl _) ⟨hz, its, 0, hv, Heap.get?_push_size _ rfl⟩
theorem Inv.fresh (I : Inv X pins σ H s) : H s.heap.objs.size = none := I.hok.fresh (Nat.le_refl _)
theorem Inv.lstM (I : Inv X pins σ H s) (hH : H l = some (.lst xs)) : xs.length ≤ sizeLine ∧ ∃ (its : List Value) (n : Nat), Vals xs its ∧ xs.length = its.length ∧ s.heap.get? l = some { cls := .type "list", data := .seq its.toArray n } := by
  obtain ⟨z, its, n, r, e⟩ := I.hok l _ hH
  exact ⟨z, its, n, r, r.length, e⟩

theorem notLongL {n : Nat} (h : n ≤ sizeLine) : Builtin.List.listTooLong n = false := by
  unfold Builtin.List.listTooLong
  exact decide_eq_false (by omega)
end

section
variable {X : Cx}

/-! ### methods -/
/-! ### list + list, list += list, list * int -/
def rCat : R2 := fun x y H Q => ∃ l b xs zs, x = .ref l ∧ y = .ref b ∧ H l = some (.lst xs) ∧ H b = some (.lst zs) ∧ xs.length + zs.length ≤ sizeLine ∧ ∀ p, H p = none → Q (.ref p) (upd H p (.lst (xs ++ zs)))
theorem op_cat : OpR X (binaryOp .Add) rCat := by
  intro pins s σ H x y v u Q I rx ry h
  obtain ⟨l, b, xs, zs, rfl, rfl, hH, hB, hz, q⟩ := h
  cases rx
  cases ry
  obtain ⟨z, its, n, r, hl, e⟩ := I.lstM hH
  obtain ⟨z2, its2, n2, r2, hl2, e2⟩ := I.lstM hB
  refine PySem.P.add_list e e2 ?_ (by rw [List.size_toArray, List.size_toArray]; omega)
  have ea : its.toArray ++ its2.toArray = (its ++ its2).toArray := by simp
  rw [ea]
  exact ⟨.ref _, _, I.lnew (t' := s.toks) (r.append r2) (by rw [List.length_append]; omega), rfl, q _ I.fresh⟩
/-- a list times an int (a negative one is nothing) -/
def rRep : R2 := fun x y H Q => ∃ l k xs, x = .ref l ∧ y = .int k ∧ H l = some (.lst xs) ∧ -(2 ^ 63) ≤ k ∧ k < 2 ^ 63 ∧ xs.length * k.toNat ≤ sizeLine ∧
  ∀ p, H p = none → Q (.ref p) (upd H p (.lst (List.replicate k.toNat xs).flatten))
theorem len_rep {α : Type} (xs : List α) (k : Nat) : (List.replicate k xs).flatten.length = k * xs.length := by
  induction k with
  | zero => simp
  | succ k ih => rw [List.replicate_succ, List.flatten_cons, List.length_append, ih, Nat.succ_mul, Nat.add_comm]
theorem op_rep : OpR X (binaryOp .Mult) rRep := by
  intro pins s σ H x y v u Q I rx ry h
  obtain ⟨l, k, xs, rfl, rfl, hH, h1, h2, hz, q⟩ := h
  cases rx
  obtain ⟨t, rfl⟩ := ry
  obtain ⟨z, its, n, r, hl, e⟩ := I.lstM hH
  have hlen : its.toArray.size * k.toNat ≤ sizeLine := by rw [List.size_toArray, ← hl]; exact hz
  have hcap : ¬ its.toArray.size * k.toNat > (2 ^ 63 - 1) / 8 := by
    have : (sizeLine : Nat) ≤ (2 ^ 63 - 1) / 8 := by decide
    omega
  have hfit : ¬ (!Builtin.List.listFitsIndex k) = true := by
    rw [fitsIndex_both h1 h2]
    exact Bool.false_ne_true
  have hlong : ¬ Builtin.List.listTooLong (its.toArray.size * k.toNat) = true := by
    rw [notLongL hlen]
    exact Bool.false_ne_true
  have hnew : List.foldl (fun x1 x2 => x1 ++ x2) #[] (List.replicate (if its.toArray.isEmpty = true then 0 else k.toNat) its.toArray) = (List.replicate k.toNat its).flatten.toArray := by
    have f0 : ∀ m : Nat, List.foldl (fun x1 x2 => x1 ++ x2) #[] (List.replicate m its.toArray) = (List.replicate m its).flatten.toArray := fun m => by
      have := foldl_rep its m []
      rw [List.nil_append] at this
      exact this
    rw [f0]
    cases its with
    | nil => simp
    | cons a r' => rw [if_neg (by simp)]
  refine wpAny_binaryOp_repeat_ref (T := "list") (U := "int") (by decide) ⟨_, e, rfl⟩ (fun s' => typeIs_int s' k t) noFill_list_mul F.fills_int_mul F.slot_int_rmul repeat_list F.slot_int_index.lookup
    (call_meets F.slot_int_rmul (typeIs_int s k t) F.entry_int_rmul (F.args_int_rmul_2 _ _) (int___rmul___int_list k t l its.toArray n)
      ⟨e, rfl, ⟨_, e, rfl⟩, call_meets F.slot_list_mul ⟨_, e, rfl⟩ F.entry_list_mul (F.args_list_mul_2 _ _) (AutoListH.list___mul___list_int_3 l its.toArray n k t hfit hcap hlong) ⟨e, ?_⟩⟩)
  rw [hnew]
  exact ⟨.ref _, _, I.lnew (t' := s.toks) (r.rep k.toNat) (by rw [len_rep, Nat.mul_comm]; exact hz), rfl, q _ I.fresh⟩

/-! ### del xs[i] -/
end

/-! ### xs[a:b] = ys -/
section
variable {prog : Program} {w : World} {A : Around} {E : Value → Shared → Prop} {s : Shared}
end

section
variable {X : Cx}
end
end L2

namespace L2
open PySem PySem.Spec PyProof.Rows

/-! ### lists of pairs as tables -/
section
variable {κ : Type} [DecidableEq κ]
def valV (kvs : List (κ × V)) (k : κ) : Option V := (kvs.find? fun kv => decide (kv.1 = k)).map (·.2)
/-- in its place, or at the end -/
def putK (kvs : List (κ × V)) (k : κ) (v : V) : List (κ × V) :=
  if (kvs.any fun kv => decide (kv.1 = k)) = true then kvs.map (fun kv => if kv.1 = k then (kv.1, v) else kv) else kvs ++ [(k, v)]
theorem valV_pos {p : κ × V} {r : List (κ × V)} {k : κ} (e : p.1 = k) : valV (p :: r) k = some p.2 := by simp [valV, List.find?_cons, e]
theorem valV_neg {p : κ × V} {r : List (κ × V)} {k : κ} (e : ¬ p.1 = k) : valV (p :: r) k = valV r k := by simp [valV, List.find?_cons, e]
theorem valV_any (k : κ) : ∀ kvs : List (κ × V), (kvs.any fun kv => decide (kv.1 = k)) = (valV kvs k).isSome
  | [] => rfl
  | p :: r => by
    rw [List.any_cons]
    by_cases e : p.1 = k
    · simp only [valV_pos e, decide_eq_true e, Bool.true_or, Option.isSome_some]
    · rw [valV_neg e, decide_eq_false e, Bool.false_or]; exact valV_any k r
theorem length_putK (kvs : List (κ × V)) (k : κ) (v : V) : (putK kvs k v).length ≤ kvs.length + 1 := by
  unfold putK
  split
  · rw [List.length_map]; omega
  · rw [List.length_append, List.length_cons, List.length_nil]; omega
theorem putK_new {kvs : List (κ × V)} {k : κ} (v : V) (h : valV kvs k = none) : putK kvs k v = kvs ++ [(k, v)] := by
  unfold putK
  rw [valV_any, h]
  exact if_neg (by decide)

theorem RelO.isSome_eq {o : Option V} {u : Option Value} (r : RelO o u) : o.isSome = u.isSome := by
  cases o with
  | none => cases u with
    | none => rfl
    | some _ => exact (show False from r).elim
  | some _ => cases u with
    | none => exact (show False from r).elim
    | some _ => rfl
theorem RelO.getD {o : Option V} {u : Option Value} {d : V} {d' : Value} (r : RelO o u) (rd : RelV d d') : RelV (o.getD d) (u.getD d') := by
  cases o with
  | none => cases u with
    | none => exact rd
    | some _ => exact (show False from r).elim
  | some _ => cases u with
    | none => exact (show False from r).elim
    | some _ => exact r

/-- raw tables of the same keys -/
theorem KV.val {kvs : List (κ × V)} {vs : List (κ × Value)} (r : KV kvs vs) (k : κ) : RelO (valV kvs k) (valueAt vs k) := by
  unfold KV at r
  induction r with
  | nil => exact True.intro
  | @cons p q ps qs h t ih =>
    obtain ⟨h1, h2⟩ := h
    by_cases e : p.1 = k
    · have e' : q.1 = k := h1.symm.trans e
      have b : valueAt (q :: qs) k = some q.2 := by simp [valueAt, List.find?_cons, e']
      rw [valV_pos e, b]; exact h2
    · have e' : ¬ q.1 = k := fun z => e (h1.trans z)
      have b : valueAt (q :: qs) k = valueAt qs k := by simp [valueAt, List.find?_cons, e']
      rw [valV_neg e, b]; exact ih
theorem KV.any {kvs : List (κ × V)} {vs : List (κ × Value)} (r : KV kvs vs) (k : κ) : (kvs.any fun kv => decide (kv.1 = k)) = vs.any fun kv => decide (kv.1 = k) := by
  unfold KV at r
  induction r with
  | nil => rfl
  | cons h t ih => rw [List.any_cons, List.any_cons, ih, h.1]
theorem KV.repl {kvs : List (κ × V)} {vs : List (κ × Value)} (r : KV kvs vs) (k : κ) {y : V} {u : Value} (ry : RelV y u) :
    KV (kvs.map fun kv => if kv.1 = k then (kv.1, y) else kv) (vs.map fun kv => if kv.1 = k then (kv.1, u) else kv) := by
  unfold KV at r ⊢
  induction r with
  | nil => exact .nil
  | @cons p q ps qs h t ih =>
    rw [List.map_cons, List.map_cons]
    refine .cons ?_ ih
    obtain ⟨h1, h2⟩ := h
    by_cases e : p.1 = k
    · rw [if_pos e, if_pos (h1.symm.trans e)]; exact ⟨h1, ry⟩
    · rw [if_neg e, if_neg (fun z => e (h1.trans z))]; exact ⟨h1, h2⟩
theorem KV.put {kvs : List (κ × V)} {vs : List (κ × Value)} (r : KV kvs vs) (k : κ) {y : V} {u : Value} (ry : RelV y u) : KV (putK kvs k y) (stored vs k u) := by
  unfold putK stored
  rw [r.any k]
  by_cases e : (vs.any fun kv => decide (kv.1 = k)) = true
  · rw [if_pos e, if_pos e]; exact r.repl k ry
  · rw [if_neg e, if_neg e]; exact Paired.snoc r ⟨rfl, ry⟩
theorem KV.keys {kvs : List (κ × V)} {vs : List (κ × Value)} (r : KV kvs vs) : kvs.map (·.1) = vs.map (·.1) := by
  unfold KV at r
  induction r with
  | nil => rfl
  | cons h t ih => rw [List.map_cons, List.map_cons, ih, h.1]
theorem KV.length {kvs : List (κ × V)} {vs : List (κ × Value)} (r : KV kvs vs) : kvs.length = vs.length := Paired.length r
end


/-! ### a tracked dict, its keys ints and texts or tuples of these -/
theorem kV_is {P : Program} {w : World} {k : Key} {u : Value} (r : RelV (kV k) u) : (mixKind P w).is k u = true := by
  cases k with
  | inl i => obtain ⟨t, e⟩ := (show ∃ t, u = Value.int i t from r); subst e; exact mixKind_int P w i t
  | inr x => obtain ⟨t, e⟩ := (show ∃ t, u = Value.str x t from r); subst e; exact mixKind_str P w x t
theorem items_are {P : Program} {w : World} : ∀ {ks : List Key} {us : List Value}, Vals (ks.map kV) us → ItemsAre (mixKind P w) ks us
  | [], _, r => by rw [List.map_nil] at r; cases r; exact .nil
  | k :: ks, _, r => by
    rw [List.map_cons] at r
    cases r with
    | cons h t => exact .cons (kV_is h) (items_are t)

/-- raw entries of a dict with tuple keys -/
abbrev KT (H : Hp) : List (List Key × V) → List (List Key × Addr × Value) → Prop := Paired fun p q => p.1 = q.1 ∧ H q.2.1 = some (.tup (p.1.map kV)) ∧ RelV p.2 q.2.2
theorem KT.val {H : Hp} {kvs : List (List Key × V)} {xs : List (List Key × Addr × Value)} (r : KT H kvs xs) (k : List Key) : RelO (valV kvs k) ((atKey xs k).map (·.2)) := by
  induction r with
  | nil => exact True.intro
  | @cons p q ps qs h t ih =>
    obtain ⟨h1, _, h2⟩ := h
    by_cases e : p.1 = k
    · have e' : q.1 = k := h1.symm.trans e
      have b : atKey (q :: qs) k = some q.2 := by simp [atKey, List.find?_cons, e']
      rw [valV_pos e, b]; exact h2
    · have e' : ¬ q.1 = k := fun z => e (h1.trans z)
      have b : atKey (q :: qs) k = atKey qs k := by simp [atKey, List.find?_cons, e']
      rw [valV_neg e, b]; exact ih
theorem KT.repl {H : Hp} {kvs : List (List Key × V)} {xs : List (List Key × Addr × Value)} (r : KT H kvs xs) (k : List Key) {y : V} {u : Value} (ry : RelV y u) :
    KT H (kvs.map fun kv => if kv.1 = k then (kv.1, y) else kv) (xs.map (putAt k u)) := by
  induction r with
  | nil => exact .nil
  | @cons p q ps qs h t ih =>
    rw [List.map_cons, List.map_cons]
    refine .cons ?_ ih
    obtain ⟨h1, h2, h3⟩ := h
    unfold putAt
    by_cases e : p.1 = k
    · rw [if_pos e, if_pos (h1.symm.trans e)]; exact ⟨h1, h2, ry⟩
    · rw [if_neg e, if_neg (fun z => e (h1.trans z))]; exact ⟨h1, h2, h3⟩
theorem KT.put {H : Hp} {kvs : List (List Key × V)} {xs : List (List Key × Addr × Value)} (r : KT H kvs xs) (k : List Key) {b : Addr} {y : V} {u : Value} (hb : H b = some (.tup (k.map kV))) (ry : RelV y u) :
    KT H (putK kvs k y) (storedH xs k b u) := by
  have e : (kvs.any fun kv => decide (kv.1 = k)) = (atKey xs k).isSome := by
    rw [valV_any, (r.val k).isSome_eq, Option.isSome_map]
  unfold putK storedH
  rw [e]
  by_cases q : (atKey xs k).isSome = true
  · rw [if_pos q, if_pos q]; exact r.repl k ry
  · rw [if_neg q, if_neg q]; exact Paired.snoc r ⟨rfl, hb, ry⟩
theorem KT.keeps {H H' : Hp} {kvs : List (List Key × V)} {xs : List (List Key × Addr × Value)} (r : KT H kvs xs) (ht : ∀ b ys, H b = some (.tup ys) → H' b = some (.tup ys)) : KT H' kvs xs :=
  Paired.mapP r fun _ _ z => ⟨z.1, ht _ _ z.2.1, z.2.2⟩

section
variable {P : Program} {w : World} {H : Hp} {h : Heap} {a : Addr}
theorem rd_of {u : HO} (ok : HOk P w H h) (e : Rd H a u) : ObjOk P w H h a u := e.ok ok
theorem dk_rd {kvs : List (Key × V)} (ok : HOk P w H h) (e : Rd H a (.dK kvs)) : kvs.length ≤ sizeLine ∧ (a == sysModules) = false ∧ ∃ vs, KV kvs vs ∧ h.DictOf (mixKind P w) a vs :=
  show ObjOk P w H h a (.dK kvs) from rd_of ok e
theorem dk_of {kvs : List (Key × V)} (ok : HOk P w H h) (e : H a = some (.dK kvs)) : kvs.length ≤ sizeLine ∧ (a == sysModules) = false ∧ ∃ vs, KV kvs vs ∧ h.DictOf (mixKind P w) a vs := dk_rd ok (.inl e)
/-- a tracked tuple of ints and texts is a key -/
theorem key_of {ks : List Key} (ok : HOk P w H h) (e : H a = some (.tup (ks.map kV))) : (tupleKind (mixKind P w)).is h ks a := by
  obtain ⟨_, its, r, o, h1, h2, n, h3⟩ := (show ObjOk P w H h a (.tup (ks.map kV)) from ok a _ e)
  exact ⟨o, its.toArray, n, h1, h2, h3, by simpa using items_are r⟩
theorem dt_rd {kvs : List (List Key × V)} (ok : HOk P w H h) (e : Rd H a (.dT kvs)) : kvs.length ≤ sizeLine ∧ (a == sysModules) = false ∧
    ∃ xs, KT H kvs xs ∧ h.DictOfH (tupleKind (mixKind P w)) a xs := by
  obtain ⟨z, y, xs, r, o, es, ep, h1, h2, h3, h4, h5⟩ := (show ObjOk P w H h a (.dT kvs) from rd_of ok e)
  refine ⟨z, y, xs, r, o, es, ep, h1, h2, h3, h4, fun x hx => ?_, h5⟩
  have all : ∀ {l : List (List Key × V)} {m : List (List Key × Addr × Value)}, KT H l m → ∀ x ∈ m, (tupleKind (mixKind P w)).is h x.1 x.2.1 := by
    intro l m q
    induction q with
    | nil => intro x hx; exact nomatch hx
    | @cons p q ps qs hq t ih =>
      intro x hx
      rcases List.mem_cons.mp hx with e | hx
      · subst e
        exact key_of ok (by rw [← hq.1]; exact hq.2.1)
      · exact ih x hx
  exact all r x hx
theorem dt_of {kvs : List (List Key × V)} (ok : HOk P w H h) (e : H a = some (.dT kvs)) : kvs.length ≤ sizeLine ∧ (a == sysModules) = false ∧
    ∃ xs, KT H kvs xs ∧ h.DictOfH (tupleKind (mixKind P w)) a xs := dt_rd ok (.inl e)
end

/-- what the dict at a holds at the key y -/
def DGet (H : Hp) (a : Addr) (y : V) (r : Option V) : Prop :=
  (∃ kvs k, Rd H a (.dK kvs) ∧ y = kV k ∧ r = valV kvs k) ∨ ∃ kvs k b, Rd H a (.dT kvs) ∧ y = .ref b ∧ H b = some (.tup (k.map kV)) ∧ r = valV kvs k
/-- the heap behind a[y] = v -/
def DPut (H : Hp) (a : Addr) (y v : V) (H' : Hp) : Prop :=
  (∃ kvs k, H a = some (.dK kvs) ∧ y = kV k ∧ kvs.length < sizeLine ∧ H' = upd H a (.dK (putK kvs k v))) ∨
  ∃ kvs k b, H a = some (.dT kvs) ∧ y = .ref b ∧ H b = some (.tup (k.map kV)) ∧ kvs.length < sizeLine ∧ H' = upd H a (.dT (putK kvs k v))
theorem DGet.k {H : Hp} {a : Addr} {kvs : List (Key × V)} {k : Key} (e : H a = some (.dK kvs)) : DGet H a (kV k) (valV kvs k) := .inl ⟨kvs, k, .inl e, rfl, rfl⟩
theorem DPut.k {H : Hp} {a : Addr} {kvs : List (Key × V)} {k : Key} {v : V} (e : H a = some (.dK kvs)) (hl : kvs.length < sizeLine) : DPut H a (kV k) v (upd H a (.dK (putK kvs k v))) := .inl ⟨kvs, k, e, rfl, hl, rfl⟩
section
variable {X : Cx} {pins : Pn} {σ : St} {H : Hp} {s : Shared} {a : Addr} {y v : V} {u r : Value} {o : Option V} {A : Around} {E : Value → Shared → Prop}

theorem Inv.big (I : Inv X pins σ H s) : sysModules < s.heap.objs.size := by
  have h : mainGlobals < s.heap.objs.size := (I.mod.glob.keeps I.bk).lt
  exact Nat.lt_trans (by decide) h

/-- d[y], there -/
theorem d_getItem {Q : Value → Shared → Prop} (hu : A.units + 1 < cLine) (I : Inv X pins σ H s) (g : DGet H a y (some v)) (ry : RelV y u) (h : ∀ w' s', Inv X pins σ H s' → RelV v w' → Q w' s') :
    wpAny (model X.prog X.w) A (getItem (.ref a) u) Q E s := by
  rcases g with ⟨kvs, k, e, ey, l⟩ | ⟨kvs, k, b, e, ey, eb, l⟩
  · subst ey
    obtain ⟨z, hd, vs, rel, dd⟩ := dk_rd I.hok e
    obtain ⟨w', hw, rw'⟩ := RelO.some_of (v := v) (o := valueAt vs k) (by rw [l]; exact rel.val k)
    exact wpAny_getItem_of (kV_is ry) dd.mapOf hw (h w' _ (I.tok _) rw')
  · subst ey
    cases (show u = Value.ref b from ry)
    obtain ⟨z, hd, xs, rel, dd⟩ := dt_rd I.hok e
    obtain ⟨w', hw, rw'⟩ := RelO.some_of (v := v) (o := (atKey xs k).map (·.2)) (by rw [l]; exact rel.val k)
    obtain ⟨p, hp, hp2⟩ := Option.map_eq_some_iff.mp hw
    refine wpAny_getItem_heap (tupleKind_room_in1 hu) (key_of I.hok eb) dd hp ?_
    rw [hp2]
    exact h w' _ (I.tok _) rw'
theorem d_notIn {Q : Value → Shared → Prop} (hu : A.units + 1 < cLine) (I : Inv X pins σ H s) (g : DGet H a y o) (ry : RelV y u) (h : ∀ s', Inv X pins σ H s' → Q (.bool (!o.isSome)) s') :
    wpAny (model X.prog X.w) A (compareOp .NotIn u (.ref a)) Q E s := by
  rcases g with ⟨kvs, k, e, ey, l⟩ | ⟨kvs, k, b, e, ey, eb, l⟩
  · subst ey
    obtain ⟨z, hd, vs, rel, dd⟩ := dk_rd I.hok e
    refine wpAny_notIn_of (kV_is ry) hd dd.mapOf ?_
    rw [← (rel.val k).isSome_eq, ← l]
    exact h _ (I.tok _)
  · subst ey
    cases (show u = Value.ref b from ry)
    obtain ⟨z, hd, xs, rel, dd⟩ := dt_rd I.hok e
    refine wpAny_notIn_heap (tupleKind_room_in1 hu) (key_of I.hok eb) hd dd ?_
    have q := (rel.val k).isSome_eq
    rw [Option.isSome_map] at q
    rw [← q, ← l]
    exact h _ (I.tok _)
/-- a dict's object is replaced -/
theorem d_write {h' : Heap} {t' : Nat} {ob : HO} (I : Inv X pins σ H s) (mu : Mut (H a)) (hs : Heap.SameBut a s.heap h') (he : ∃ q, h'.get? a = some q) (new : ObjOk X.prog X.w (upd H a ob) h' a ob) :
    Inv X pins σ (upd H a ob) { s with heap := h', toks := t' } :=
  I.write (x := a) (e := a) mu (.inl rfl) (fun b q hb z => (hs.2 b hb).trans z) he new
theorem dk_new {P : Program} {w : World} {H' : Hp} {h' : Heap} {kvs : List (Key × V)} {vs : List (Key × Value)} (z : kvs.length ≤ sizeLine) (hd : (a == sysModules) = false) (rel : KV kvs vs) (dd : h'.DictOf (mixKind P w) a vs) :
    ObjOk P w H' h' a (.dK kvs) := ⟨z, hd, vs, rel, dd⟩
/-- d[y] = v -/
theorem d_setItem {H' : Hp} {Q : Unit → Shared → Prop} (hu : A.units + 1 < cLine) (I : Inv X pins σ H s) (g : DPut H a y v H') (ry : RelV y u) (rv : RelV v r) (h : ∀ s', Inv X pins σ H' s' → Q () s') :
    wpAny (model X.prog X.w) A (setItem (.ref a) u r) Q E s := by
  rcases g with ⟨kvs, k, e, ey, l, eH⟩ | ⟨kvs, k, b, e, ey, eb, l, eH⟩
  · subst ey eH
    obtain ⟨z, hd, vs, rel, dd⟩ := dk_of I.hok e
    have hz : vs.length ≤ sizeLine := by rw [← rel.length]; exact z
    have hl : (putK kvs k v).length ≤ sizeLine := by have := length_putK kvs k v; omega
    refine wpAny_setItem_pairs (hsz := hz) (kV_is ry) dd fun h' dd' hs => h _ ?_
    have he : ∃ q, h'.get? a = some q := let ⟨q, _, _, hq, _⟩ := dd'; ⟨q, hq⟩
    exact d_write I (by rw [e]; exact True.intro) hs he (dk_new hl hd (rel.put k rv) dd')
  · subst ey eH
    cases (show u = Value.ref b from ry)
    obtain ⟨z, hd, xs, rel, dd⟩ := dt_of I.hok e
    have hz : xs.length ≤ sizeLine := by rw [← Paired.length rel]; exact z
    have hl : (putK kvs k v).length ≤ sizeLine := by have := length_putK kvs k v; omega
    refine wpAny_setItem_heap (hsz := hz) (tupleKind_room_in1 hu) (key_of I.hok eb) dd fun h' dd' hs => h _ ?_
    obtain ⟨q, es, ep, hq, h2, h3, h4, _, h5⟩ := dd'
    refine d_write I (by rw [e]; exact True.intro) hs ⟨q, hq⟩ ⟨hl, hd, _, (rel.put k eb rv).keeps fun c ys ec => ?_, q, es, ep, hq, h2, h3, h4, h5⟩
    rw [upd_ne (ne_of ec e (fun z => nomatch z))]
    exact ec
end

section
variable {X : Cx} {pins : Pn} {σ : St} {H : Hp} {s : Shared} {a : Addr} {kvs : List (Key × V)} {k : Key} {u : Value} {A : Around} {E : Value → Shared → Prop}
/-- len(d) -/
theorem d_len {Q : Value → Shared → Prop} (I : Inv X pins σ H s) (e : Rd H a (.dK kvs)) (h : ∀ t s', Inv X pins σ H s' → Q (.int kvs.length t) s') : wpAny (model X.prog X.w) A (call (.builtin "len") [.ref a]) Q E s := by
  obtain ⟨z, hd, vs, rel, dd⟩ := dk_rd I.hok e
  refine call_len_dict hd dd (by rw [← rel.length]; rw [sizeLine_eq] at z; omega) ?_
  rw [← rel.length]
  exact h _ _ (I.tok _)
end


/-! ### readings and rules -/
/-- the element of a subscription, not a slice -/
def NoSl (i : Expr) : Prop := ∀ ov iv, subscripted i false ov iv = operate [ov, iv] (getItem ov iv)
theorem subD_of {prog : Program} {w : World} {A : Around} {E : Value → Shared → Prop} {s : Shared} {env : Env} {value slice : Expr} {pos : Pos} {T id : String} {Q : Value → Shared → Prop}
    (hl : typeLookup (.type T) "__getitem__" = pure (some (.builtin id))) (hs : NoSl slice)
    (h : wpAny (model prog w) A (eval value env) (fun o s₁ => wpAny (model prog w) A (eval slice env) (fun i s₂ => s₂.TypeIs o T ∧ wpAny (model prog w) A (getItem o i) Q E s₂) E s₁) E s) :
    wpAny (model prog w) A (eval (.Subscript value slice pos) env) Q E s := by
  refine Subscript_ (wpAny_mono h (fun o s₁ h₁ => wpAny_mono h₁ (fun i s₂ h₂ => ?_) fun _ _ x => x) fun _ _ x => x)
  obtain ⟨hT, h₂⟩ := h₂
  unfold subscriptTail
  refine wpAny_bind ?_
  rw [getitemInPython_of_ne hT.not_modules]
  refine wpAny_bind (wpAny_specialOf hT hl ?_)
  have fin : wpAny (model prog w) A (subscripted slice false o i) (fun r s₃ => wpAny (model prog w) A (letTemporaryGo value o r >>= fun _ => pure r) Q E s₃) E s₂ := by
    rw [hs o i]
    exact wpAny_operating (wpAny_mono h₂ (fun r s₃ h₃ => wpAny_bind (wpAny_letTemporaryGo (wpAny_pure h₃))) fun _ _ x => x)
  first
    | exact wpAny_pure (wpAny_bind fin)
    | exact wpAny_bind (wpAny_pure (wpAny_bind fin))
    | exact wpAny_bind fin

theorem dict_typeIs {X : Cx} {pins : Pn} {σ : St} {H : Hp} {s : Shared} {a : Addr} {y : V} {o : Option V} (I : Inv X pins σ H s) (g : DGet H a y o) : s.TypeIs (.ref a) "dict" := by
  rcases g with ⟨kvs, k, e, _, _⟩ | ⟨kvs, k, b, e, _, _, _⟩
  · obtain ⟨_, _, vs, _, dd⟩ := dk_rd I.hok e
    exact dd.typeIs
  · obtain ⟨_, _, xs, _, dd⟩ := dt_rd I.hok e
    exact dd.typeIs
/-- d[y] -/
def tDGet (td ty : TE) : TE := fun σ H Q => td σ H fun x H1 => ty σ H1 fun y H2 => ∃ a v, x = .ref a ∧ DGet H2 a y (some v) ∧ Q v H2
def tDNotIn (ty td : TE) : TE := fun σ H Q => ty σ H fun y H1 => td σ H1 fun x H2 => ∃ a o, x = .ref a ∧ DGet H2 a y o ∧ Q (.bl (!o.isSome)) H2
/-- d[y] = v -/
def sDPut (td ty tv : TE) : TS := fun D σ H => tv σ H fun v H1 => td σ H1 fun x H2 => ty σ H2 fun y H3 => ∃ a H4, x = .ref a ∧ DPut H3 a y v H4 ∧ D.nx σ H4
section
variable {X : Cx} {o i e value : Expr} {pos pos' tpos : Pos} {td ty tv : TE}
theorem pe_dget (hu : X.A.units + 1 < cLine) (ho : PE X o td) (hi : PE X i ty) (hs : NoSl i) : PE X (.Subscript o i pos) (tDGet td ty) := by
  intro pins s σ H Q I h
  refine subD_of PySem.F.slot_dict_getitem.lookup hs (thn (ho pins s σ H _ I h) fun u s1 ⟨x, H1, I1, rx, q1⟩ => thn (hi pins s1 σ H1 _ I1 q1) fun iv s2 ⟨y, H2, I2, ry, a, v, ex, g, q2⟩ => ?_)
  subst ex
  obtain rfl : u = Value.ref a := rx
  exact ⟨dict_typeIs I2 g, d_getItem hu I2 g ry fun w' s3 I3 rw' => ⟨v, H2, I3, rw', q2⟩⟩
theorem pc_dnotin (hu : X.A.units + 1 < cLine) (hi : PE X i ty) (ho : PE X o td) : PC X .NotIn i o (tDNotIn ty td) := by
  intro pins s σ H Q I h
  refine thn (hi pins s σ H _ I h) fun iv s1 ⟨y, H1, I1, ry, q1⟩ => thn (ho pins s1 σ H1 _ I1 q1) fun u s2 ⟨x, H2, I2, rx, a, ov, ex, g, q2⟩ => ?_
  subst ex
  obtain rfl : u = Value.ref a := rx
  exact d_notIn hu I2 g ry fun s3 I3 => ⟨.bl (!ov.isSome), H2, I3, rfl, q2⟩
theorem ps_dput (hu : X.A.units + 1 < cLine) (ho : PE X o td) (hi : PE X i ty) (hv : PE X value tv) (hs : swapsWith value (some (.Subscript o i pos')) pos.line X.env = pure false) :
    PS X (.Assign [.Subscript o i pos'] value pos) (sDPut td ty tv) := by
  intro pins s σ H D I h
  refine wpAny_Assign_Subscript (thn (hv pins s σ H _ I h) fun r s1 ⟨v, H1, I1, rv, q1⟩ => thn (ho pins s1 σ H1 _ I1 q1) fun u s2 ⟨x, H2, I2, rx, q2⟩ => thn (hi pins s2 σ H2 _ I2 q2) fun iv s3 ⟨y, H3, I3, ry, a, H4, ex, g, q3⟩ => ?_) hs
  subst ex
  obtain rfl : u = Value.ref a := rx
  exact d_setItem hu I3 g ry rv fun s4 I4 => ⟨σ, H4, I4, q3⟩
end


/-! ### displays -/
theorem dk_empty {P : Program} {w : World} {H : Hp} (h : Heap) (hb : sysModules < h.objs.size) : ObjOk P w H (h.push { cls := .type "dict", data := .dict #[] }) h.objs.size (.dK []) :=
  ⟨Nat.zero_le _, beq_eq_false_iff_ne.mpr (Ne.symm (Nat.ne_of_lt hb)), [], .nil, Heap.DictOf.new h⟩
/-- {}, to be a dict of the kind that is wanted -/
def tDNewK : TE := fun _ H Q => ∀ p, H p = none → Q (.ref p) (upd H p (.dK []))
section
variable {X : Cx} {pos : Pos}
theorem pe_dnewK : PE X (.Dict [] [] pos) tDNewK := fun pins s σ H Q I h =>
  wpAny_Dict_empty ⟨.ref s.heap.objs.size, _, I.laid (a := s.heap.objs.size) (o := .dK []) (t' := s.toks) (fun _ _ q => Heap.get?_push_of_some _ q) (Nat.le_refl _) (dk_empty s.heap I.big), rfl, h _ (I.hok.fresh (Nat.le_refl _))⟩
end

/-- the pairs of a display, from the left -/
def tPairs : List (TE × TE) → St → Hp → (List (V × V) → Hp → Prop) → Prop
  | [], _, H, Q => Q [] H
  | (tk, tv) :: r, σ, H, Q => tk σ H fun x H1 => tv σ H1 fun y H2 => tPairs r σ H2 fun ps H3 => Q ((x, y) :: ps) H3
abbrev VV : List (V × V) → List (Value × Value) → Prop := Paired fun p q => RelV p.1 q.1 ∧ RelV p.2 q.2
def PPs (X : Cx) (pos : Pos) (keys : List (Option Expr)) (values : List Expr) (trs : List (TE × TE)) : Prop :=
  ∀ (pins : Pn) (s : Shared) (σ : St) (H : Hp) (Q : List (V × V) → Hp → Prop), Inv X pins σ H s → tPairs trs σ H Q →
    wpAny (model X.prog X.w) X.A (evalPairs (pairTrees keys values X.env pos)) (fun vs s' => ∃ ps H', Inv X pins σ H' s' ∧ VV ps vs ∧ Q ps H') X.xe s
theorem pps_nil {X : Cx} {pos : Pos} : PPs X pos [] [] [] := fun pins s σ H Q I h => pairTrees_nil_walk ⟨[], H, I, .nil, h⟩
theorem pps_cons {X : Cx} {pos : Pos} {k v : Expr} {ks : List (Option Expr)} {vs : List Expr} {tk tv : TE} {trs : List (TE × TE)} (hk : PE X k tk) (hv : PE X v tv) (hr : PPs X pos ks vs trs) :
    PPs X pos (some k :: ks) (v :: vs) ((tk, tv) :: trs) := fun pins s σ H Q I h =>
  pairTrees_cons_walk (thn (hk pins s σ H _ I h) fun u s1 ⟨x, H1, I1, rx, q1⟩ => thn (hv pins s1 σ H1 _ I1 q1) fun w2 s2 ⟨y, H2, I2, ry, q2⟩ =>
    thn (hr pins s2 σ H2 _ I2 q2) fun ws s3 ⟨ps, H3, I3, rel, q3⟩ => ⟨(x, y) :: ps, H3, I3, .cons ⟨rx, ry⟩ rel, q3⟩)

def mergeK (kvs more : List (Key × V)) : List (Key × V) := more.foldl (fun acc kv => putK acc kv.1 kv.2) kvs
theorem KV.merge : ∀ {more : List (Key × V)} {rs : List (Key × Value)} {kvs : List (Key × V)} {vs : List (Key × Value)}, KV more rs → KV kvs vs → KV (mergeK kvs more) (merged vs rs) := by
  intro more rs kvs vs r
  unfold KV at r
  induction r generalizing kvs vs with
  | nil => intro q; exact q
  | @cons p q ps qs h t ih =>
    intro r0
    have e : KV (putK kvs p.1 p.2) (stored vs q.1 q.2) := by
      have := r0.put p.1 h.2
      rw [← h.1]; exact this
    exact ih e
theorem length_mergeK : ∀ (more kvs : List (Key × V)), (mergeK kvs more).length ≤ kvs.length + more.length
  | [], kvs => by show kvs.length ≤ kvs.length + 0; omega
  | p :: r, kvs => by
    have h1 := length_mergeK r (putK kvs p.1 p.2)
    have h2 := length_putK kvs p.1 p.2
    show (mergeK (putK kvs p.1 p.2) r).length ≤ _
    rw [List.length_cons]; omega
theorem carries_of {P : Program} {w : World} : ∀ {kvs : List (Key × V)} {ws : List (Value × Value)}, VV (kvs.map fun kv => (kV kv.1, kv.2)) ws → ∃ rs, Carries (mixKind P w) ws rs ∧ KV kvs rs
  | [], _, r => by rw [List.map_nil] at r; cases r; exact ⟨[], True.intro, .nil⟩
  | p :: kvs, _, r => by
    rw [List.map_cons] at r
    cases r with
    | @cons a b as bs h t =>
      obtain ⟨rs, c, q⟩ := carries_of (P := P) (w := w) t
      obtain ⟨b1, b2⟩ := b
      exact ⟨(p.1, b2) :: rs, ⟨kV_is h.1, rfl, c⟩, .cons ⟨rfl, h.2⟩ q⟩
/-- {k: v, ..} with keys ints and texts; the new dict stands empty while the pairs are made -/
def tDisp (trs : List (TE × TE)) : TE := fun σ H Q => ∀ p, H p = none → tPairs trs σ (upd H p (.dK [])) fun ps H2 => H2 p = some (.dK []) ∧ ∃ kvs : List (Key × V), ps = kvs.map (fun kv => (kV kv.1, kv.2)) ∧ kvs.length ≤ 15 ∧ Q (.ref p) (upd H2 p (.dK (mergeK [] kvs)))
theorem pe_disp {X : Cx} {pos : Pos} {keys : List (Option Expr)} {values : List Expr} {trs : List (TE × TE)} (h : PPs X pos keys values trs) (hall : keys.all (·.isSome) = true) (hl : keys.length = values.length) (h0 : keys ≠ [])
    (h15 : keys.length ≤ 15) : PE X (.Dict keys values pos) (tDisp trs) := by
  intro pins s σ H Q I q
  have hn := I.hok.fresh (Nat.le_refl s.heap.objs.size)
  have I1 := I.laid (a := s.heap.objs.size) (o := .dK []) (h' := s.heap.push { cls := .type "dict", data := .dict #[] }) (t' := s.toks) (fun _ _ q => Heap.get?_push_of_some _ q) (Nat.le_refl _) (dk_empty s.heap I.big)
  refine wpAny_Dict_walk (knd := mixKind X.prog X.w) hall hl h0 h15 (thn (h pins _ σ _ _ I1 (q _ hn)) fun ws s2 ⟨ps, H2, I2, rel, e, kvs, ep, lk, q2⟩ => ?_)
  subst ep
  obtain ⟨rs, c, rk⟩ := carries_of (P := X.prog) (w := X.w) rel
  obtain ⟨z, hd, vs0, r0, dd⟩ := dk_of I2.hok e
  cases r0
  refine ⟨rs, c, dd, fun h' dd' hs => ⟨.ref s.heap.objs.size, _, ?_, rfl, q2⟩⟩
  have hz : (mergeK [] kvs).length ≤ sizeLine := by
    have h1 := length_mergeK kvs []
    rw [List.length_nil] at h1
    rw [sizeLine_eq]; omega
  have he : ∃ q, h'.get? s.heap.objs.size = some q := let ⟨q, _, _, hq, _⟩ := dd'; ⟨q, hq⟩
  exact d_write I2 (by rw [e]; exact True.intro) hs he (dk_new hz hd (rk.merge .nil) dd')


/-! ### methods -/
/-- a method call o.m(e) of a built-in, with one argument: what must be seen of the text -/
structure M1 (X : Cx) (o : Expr) (m : Str) (apos : Pos) (e : Expr) (cpos : Pos) : Prop where
  base : attributeBase o m X.env (eval o X.env) = eval o X.env
  few : ((backTo cpos (starEach [e] X.env)).all (fun x => !x.1) && (backToKw cpos (keywordEach [] X.env)).all (fun x => x.1.isSome)
    && decide (([e] : List Expr).length + ([] : List Keyword).length + (if ([] : List Keyword).isEmpty then 0 else 1) < 30)) = true
  line : (apos.endLine == cpos.line) = true
  trees : backTo cpos (starEach [e] X.env) = [(false, eval e X.env)]
structure M2 (X : Cx) (o : Expr) (m : Str) (apos : Pos) (e f : Expr) (cpos : Pos) : Prop where
  base : attributeBase o m X.env (eval o X.env) = eval o X.env
  few : ((backTo cpos (starEach [e, f] X.env)).all (fun x => !x.1) && (backToKw cpos (keywordEach [] X.env)).all (fun x => x.1.isSome)
    && decide (([e, f] : List Expr).length + ([] : List Keyword).length + (if ([] : List Keyword).isEmpty then 0 else 1) < 30)) = true
  line : (apos.endLine == cpos.line) = true
  trees : backTo cpos (starEach [e, f] X.env) = [(false, eval e X.env), (false, eval f X.env)]

section
variable {X : Cx} {pins : Pn} {σ : St} {H : Hp} {s : Shared} {a : Addr} {y d : V} {u r : Value} {o : Option V} {A : Around} {E : Value → Shared → Prop}
end

section
variable {X : Cx} {o e f : Expr} {apos cpos : Pos} {td ty tx : TE}
end

/-! ### dict(d): a copy -/
section
variable {X : Cx} {pins : Pn} {σ : St} {H : Hp} {s : Shared} {a : Addr} {kvs : List (Key × V)} {A : Around} {E : Value → Shared → Prop}
end


section
variable {X : Cx} {pins : Pn} {σ : St} {H : Hp} {s : Shared} {a : Addr} {y : V} {u : Value} {A : Around} {E : Value → Shared → Prop}
end
end L2

namespace Att
open PySem PySem.W PySem.Calls PyProof.Rows

/-! ### the script -/
theorem ints_of_wellAll {P : Params} {h : Heap} : ∀ (ns : List Int) (vs : List Value), WellAll P h vs (ns.map WData.int) → IntsAre vs ns := by
  intro ns
  induction ns with
  | nil =>
    intro vs w
    rw [List.map_nil] at w
    cases w
    exact .nil
  | cons n ns ih =>
    intro vs w
    rw [List.map_cons] at w
    cases w with
    | cons a b =>
      cases a
      exact .cons _ _ (ih _ b)

theorem script_of {l : OpenLaw} {n : Nat} (hn : l.most = some n) {P : Params} {h : Heap} {args : List WData} {vals : List Value}
    (hpre : l.row.toRowW.claim.pre args = true) (hwl : WellAll P h vals args) :
    ∃ a vs ns, vals = [Value.ref a] ∧ args = [WData.list (ns.map WData.int)] ∧ h.get? a = some { cls := .type "list", data := .seq vs.toArray } ∧ IntsAre vs ns ∧ ns.length ≤ n := by
  have hsh : WShape.hasAll [] args [.list .int] = true := (pre_splitW hpre).1
  have hc : l.pre.holds [] { args := args } = true := (pre_splitW hpre).2
  obtain ⟨d, r, rfl, h1, h2⟩ := hasAllW_cons hsh
  obtain rfl := hasAllW_nil h2
  obtain ⟨xs, rfl, h3⟩ := hasW_list h1
  obtain ⟨ns, rfl⟩ := items_int h3
  have hlen : ns.length ≤ n := by
    unfold OpenLaw.pre at hc
    have h4 : (WTm.not (.lt (.lit (.int (n : Int))) (.len (.arg 0)))).holds [] { args := [.list (ns.map .int)] } = true := by
      have h4 := (holds_andW hc).1
      rw [hn] at h4
      exact h4
    have h5 := condW_of h4 (w_not (w_lt w_lit (w_len_list (w_arg rfl))))
    rw [List.length_map] at h5
    refine Nat.le_of_not_lt fun q => ?_
    have q' : (n : Int) < ((ns.length : Nat) : Int) := by omega
    first
      | (rw [decide_eq_true q'] at h5; exact absurd h5 (by decide))
      | (simp at h5; omega)
  cases hwl with
  | cons w1 w2 =>
    cases w2
    cases w1 with
    | list ho hall => exact ⟨_, _, ns, rfl, rfl, ho, ints_of_wellAll ns _ hall, hlen⟩

theorem post_true (l : OpenLaw) (args : List WData) : l.row.toRowW.claim.post args (.bool true) args = true :=
  postW_of (r := l.row.toRowW) (X := (true == true))
    (show WShape.has [] (.bool true) .bool = true by first | rfl | decide | simp [WShape.has, WShape.arms, WShape.armsAll])
    (show (WTm.eq .res (.lit (.bool true))).value [] { args := args, res := some (.bool true), after := args } = some (.bool (true == true)) from w_eq_bool (w_res rfl) w_lit) rfl

/-! ### the attachment: holds_open's last premise (the goal 'hc' behind k_head) from a wpAny of the law's body -/
/-- the same from a codeAny of the CALL (for a layer whose function contracts speak of calls) -/
theorem attach_call {l : OpenLaw} {n : Nat} {q : Program} {loose : List Str} {XP : (Str → Option Value) → Heap → Prop} {YP : World → Heap → Prop} {d : DefRec}
    (hn : l.most = some n) (hdf : d.params.defaults = [])
    (call : ∀ (w : World) (s₀ s₁ : Shared) (mg mb : Str → Option Value) (fa : Addr) (o : Obj) (pm cd doc : Value) (a : Addr) (vs : List Value) (ns : List Int),
      Ground q loose [] XP w s₀ mg mb s₁.heap → YP w s₁.heap →
      s₁.heap.get? fa = some o → o.data = .func (docDef d.name d.params d.body d.scope pm cd doc) → s₁.heap.CodeRec cd d.name → mg d.name = some (.ref fa) →
      s₁.heap.get? a = some { cls := .type "list", data := .seq vs.toArray } → IntsAre vs ns → ns.length ≤ n → s₁.gens = #[] →
      codeAny (model l.prog w) callerA (.call (.ref fa) ⟨[.ref a], []⟩) (fun r s' => r = .ok (.ret (.bool true)) ∧ OldK s₁.heap s'.heap ∧ s'.os = s₁.os ∧ AllBare s'.gens) s₁) :
    WalkO q loose XP YP l.row.toRowW d [] (fun f vs => PySem.call f vs) := by
  intro w s₀ s₁ mg mb G Y fa o pm cd doc dV kV ho hd hcd hD hmg hg args vals as hpre hlay hrd hwl hlo
  obtain rfl : dV = .none := Dflts.none hD hdf
  obtain rfl : kV = .none := Dflts.noKw hD
  obtain ⟨a, vs, ns, rfl, rfl, hobj, hints, hlen⟩ := script_of hn hpre hwl
  refine enter_call (codeAny_mono (call w s₀ s₁ mg mb fa o pm cd doc a vs ns G Y ho (fd_plain hd) hcd hmg hobj hints hlen hg) fun r s' hq => ?_)
  obtain ⟨rfl, h2, h3, h4⟩ := hq
  exact ⟨.inl ⟨.bool true, .bool true, [], rfl, fun _ => rfl, .bool true, post_true l _, fun _ => ⟨List.Pairwise.nil, fun _ hm => (nomatch hm)⟩⟩, h2, h3, h4⟩

/-! ### rules over ANY heap (no ledger) from facts about the written part K: the library's own take a ledger (News) for what they write -/
section
variable {prog : Program} {w : World} {A : Around} {E : Value → Shared → Prop} {s : Shared} {K : Frag}

/-! the whole heap as the ledger: makes every rule that writes through a ledger a rule over any heap -/
def ledger (h : Heap) (L d : Addr) : Pn := (List.range h.objs.size).filterMap fun a => if a = L ∨ a = d then none else (h.get? a).map fun o => (a, o)
end
end Att

namespace L2
open PySem PySem.Spec PyProof.Rows

theorem vals_ints : ∀ {vs : List Value} {ns : List Int}, IntsAre vs ns → Vals (ns.map V.int) vs
  | _, _, .nil => .nil
  | _, _, .cons n t h => .cons ⟨t, rfl⟩ (vals_ints h)

/-- nothing is tracked but the script, known to the object (or it is an object of the module) -/
def Only (H : Hp) : Prop := ∀ b, H b = none ∨ ∃ o xs, H b = some (.frz o (.lst xs))

/-- THE HEAD: the law's promise, at the heap behind the top. F, the promise of the law's def, may use that base is part of the heap (so K.In base, base.Ns mainGlobals mg stand in Mod) -/
theorem law_call {P : Program} {w : World} {K : Fg} {mg mb : Str → Option Value} {CX : CXT} {k : Nat} {fa a : Addr} {fd : FuncData} {x : Str} {sp : Sp} {s₁ : Shared} {vs : List Value} {ns : List Int}
    (KX : K.In s₁.heap) (hns : s₁.heap.Ns mainGlobals mg) (hb : s₁.heap.Ns builtinsNs mb) (hbb : ∀ x : Str, x ≠ "__name__" → mb x = bootBuiltins x) (hlim : s₁.heap.NoLimit) (hg : s₁.gens = #[])
    (ha : s₁.heap.get? a = some { cls := .type "list", data := .seq vs.toArray }) (hi : IntsAre vs ns) (hl : ns.length ≤ sizeLine) (hr : Room k callerA)
    (F : ∀ base : Heap, K.In base → base.Ns mainGlobals mg → FnOk P w K mg base CX k fa fd [x] sp) (hbind : ∀ (s : Shared) (u : Value), BindsTo s fd ⟨[u], []⟩ [(x, u)])
    (hsp : ∀ H : Hp, Only H → SqL K H a (ns.map V.int) → sp [.ref a] H (fun v _ => v = .bl true) fun _ _ _ => False)
    (hCX : ∀ H e s', CX [] H s₁ (fun _ _ _ => False) e s' → False) :
    codeAny (model P w) callerA (.call (.ref fa) ⟨[.ref a], []⟩) (fun r s' => r = .ok (.ret (.bool true)) ∧ OldK s₁.heap s'.heap ∧ s'.os = s₁.os ∧ AllBare s'.gens) s₁ := by
  have rv := vals_ints hi
  have lenV := hi.length
  -- from an abstract heap in which nothing but the script may be tracked
  have core : ∀ H : Hp, Only H → SqL K H a (ns.map V.int) → HOk P w H s₁.heap → (∀ b, H b ≠ none → b = a) → (H a ≠ none → K.lookup a = none) →
      codeAny (model P w) callerA (.call (.ref fa) ⟨[.ref a], []⟩) (fun r s' => r = .ok (.ret (.bool true)) ∧ OldK s₁.heap s'.heap ∧ s'.os = s₁.os ∧ AllBare s'.gens) s₁ := by
    intro H hO hS hok hA hK
    have base_of : ∀ {b : Addr} {o : Obj}, s₁.heap.get? b = some o → H b = none → (hidT s₁.heap H).get? b = some o := fun e n => hidT_get e n
    have noA : ∀ {b : Addr} {o : Obj} {es : Array DictEntry} {ep : Nat}, s₁.heap.get? b = some o → o.data = .dict es ep → H b = none := fun {b o es ep} e d => by
      cases q : H b with
      | none => rfl
      | some u =>
        have e' : b = a := hA b (by rw [q]; simp)
        subst e'
        rw [ha] at e; cases e
        have d' : Data.seq vs.toArray _ = Data.dict es ep := d
        cases d'
    have nsK : ∀ {b : Addr} {m : Str → Option Value}, s₁.heap.Ns b m → (hidT s₁.heap H).Ns b m := fun {b m} ⟨o, es, ep, e, d, r⟩ => ⟨o, es, ep, base_of e (noA e d), d, r⟩
    have hKb : K.In (hidT s₁.heap H) := fun b o e => base_of (KX b o e) (by
      cases q : H b with
      | none => rfl
      | some u =>
        have e' : b = a := hA b (by rw [q]; simp)
        subst e'
        rw [hK (by rw [q]; simp)] at e; cases e)
    have hM : Mod K mg (hidT s₁.heap H) := ⟨hKb, nsK hns, ⟨mb, nsK hb, hbb⟩, let ⟨mc, h1, h2⟩ := hlim; ⟨mc, nsK h1, h2⟩⟩
    have e0 : Env0 P w K mg (hidT s₁.heap H) callerA [] s₁ H := ⟨rfl, hM, fun b o e => of_hidT e, Nat.le_of_eq (hidT_size _ _), trivial, fun b hb => absurd (show b ∈ ([] : List Addr) from hb) (by simp), hok, .of_eq hg⟩
    refine codeAny_mono ((F _ hKb (nsK hns)).run callerA [] s₁ H ⟨[.ref a], []⟩ [.ref a] [.ref a] _ _ hr e0 (hbind s₁ (.ref a)) (.cons rfl .nil) (hsp H hO hS)) fun r s' h => ?_
    cases r with
    | error e => exact (hCX H e s' h).elim
    | ok fl =>
      cases fl with
      | next => exact False.elim h
      | brk => exact False.elim h
      | cont => exact False.elim h
      | ret u =>
        obtain ⟨v, H', os, bare, un, hok', r', q⟩ := h
        have q' : v = .bl true := q
        subst q'
        obtain rfl : u = Value.bool true := r'
        refine ⟨rfl, OldK.of_keep fun b o e => ?_, os, bare⟩
        cases q : H b with
        | none => exact un.keep b o e q (by intro z; exact absurd (show b ∈ ([] : List Addr) from z) (by simp)) (by simp)
        | some u =>
          rcases hO b with z | ⟨ob, xs, z⟩
          · rw [q] at z; cases z
          · have z2 := un.frzs b ob _ z
            obtain ⟨e1, _⟩ := hok b _ z
            obtain ⟨e2, _⟩ := hok' b _ z2
            rw [e] at e1; cases e1
            exact e2
  cases hk : K.lookup a with
  | some o =>
    -- the script is one of the module's own objects
    have e := KX a o hk
    rw [ha] at e
    cases e
    refine core (fun _ => none) (fun _ => .inl rfl) (.inr ⟨_, vs.toArray, _, hk, rfl, rfl, rfl, by rw [List.size_toArray, lenV]; exact hl, by simpa using rv⟩) (fun b u z => by have z' : (none : Option HO) = some u := z; cases z') (fun b z => absurd rfl z) fun z => absurd rfl z
  | none =>
    refine core (fun b => if b = a then some (.frz { cls := .type "list", data := .seq vs.toArray } (.lst (ns.map V.int))) else none) (fun b => ?_) (.inl (.inr ⟨{ cls := .type "list", data := .seq vs.toArray }, if_pos rfl⟩)) (fun b u z => ?_) (fun b z => ?_) fun _ => hk
    · by_cases hb : b = a
      · exact .inr ⟨_, _, if_pos hb⟩
      · exact .inl (if_neg hb)
    · by_cases hb : b = a
      · have z' := (if_pos hb).symm.trans z
        cases z'
        subst hb
        exact ⟨ha, by rw [List.length_map]; exact hl, vs, _, rv, ha⟩
      · have z' := (if_neg hb).symm.trans z
        cases z'
    · by_cases hb : b = a
      · exact hb
      · exact absurd (if_neg hb) z
end L2

namespace L2
open PySem PySem.Spec PyProof.Rows

/-- the goal that k_head leaves (case hc), from the law's promise. F gives the function object fd (K's own) once, then the promise over every base -/
theorem walk_of {l : PySem.W.OpenLaw} {n k : Nat} {q : Program} {loose : List Str} {XP : (Str → Option Value) → Heap → Prop} {YP : World → Heap → Prop} {d : DefRec} {K : Params → Fg} {CX : World → CXT} {sp : World → Sp} {x : Str}
    (hn : l.most = some n) (hn2 : n ≤ sizeLine) (hdf : d.params.defaults = []) (hr : Room k callerA)
    (hY : ∀ (w : World) (h : Heap), YP w h → (K w.params).In h)
    (F : ∀ (w : World) (mg : Str → Option Value) (fa : Addr) (h : Heap), (K w.params).In h → h.Ns mainGlobals mg → mg d.name = some (.ref fa) →
      ∃ fd : FuncData, (∀ (s : Shared) (u : Value), BindsTo s fd ⟨[u], []⟩ [(x, u)]) ∧
        ∀ base : Heap, (K w.params).In base → base.Ns mainGlobals mg → FnOk l.prog w (K w.params) mg base (CX w) k fa fd [x] (sp w))
    (hsp : ∀ (w : World) (H : Hp) (a : Addr) (ns : List Int), ns.length ≤ n → Only H → SqL (K w.params) H a (ns.map V.int) → sp w [.ref a] H (fun v _ => v = .bl true) fun _ _ _ => False)
    (hCX : ∀ (w : World) (H : Hp) (s : Shared) (e : Value) (s' : Shared), CX w [] H s (fun _ _ _ => False) e s' → False) :
    PySem.W.WalkO q loose XP YP l.row.toRowW d [] (fun f vs => PySem.call f vs) := by
  refine Att.attach_call hn hdf fun w s₀ s₁ mg mb fa o pm cd doc a vs ns G Y ho hd hcd hmg hobj hints hlen hg => ?_
  have KX := hY w _ Y
  obtain ⟨fd, hb, hF⟩ := F w mg fa _ KX G.T.g hmg
  exact law_call KX G.T.g G.T.b G.T.builtins G.T.nolimit hg hobj hints (Nat.le_trans hlen hn2) hr hF hb (fun H hO hS => hsp w H a ns hlen hO hS) fun H e s' => hCX w H s₁ e s'
end L2

/-! SHORT WORDS over the layer: a def of the text, its body, what a loop and a test want. -/
namespace L2
open PySem PySem.Spec PyProof.Rows

/-! ### the text by places -/
/-- the j-th statement of a class's body -/
def inClass (s : Stmt) (j : Nat) : Stmt := match s with
  | .ClassDef _ _ _ body _ _ _ _ _ _ _ => body.getD j (.Pass ⟨0, 0, 0, 0⟩)
  | _ => .Pass ⟨0, 0, 0, 0⟩
def defArgs (s : Stmt) : Arguments := match s with
  | .FunctionDef _ a _ _ _ _ _ _ _ _ => a
  | _ => { posonlyargs := [], args := [], vararg := none, kwonlyargs := [], kw_defaults := [], kwarg := none, defaults := [] }
def defBody (s : Stmt) : List Stmt := match s with
  | .FunctionDef _ _ b _ _ _ _ _ _ _ => b
  | _ => []
def defScope (s : Stmt) : Scope := match s with
  | .FunctionDef _ _ _ _ _ _ sc _ _ _ => sc
  | _ => { kind := .function, names := [], isGenerator := false, isCoroutine := false }

/-! ### no exception leaves a def -/
abbrev CX0 : CXT := fun _ _ _ _ _ _ => False
abbrev E0 : XK := fun _ _ _ => False
theorem pass0 {X : Cx} : Passes CX0 X E0 := fun _ _ _ _ _ _ _ h => h.elim

/-! ### a def (or method) of the text as it stands behind the top -/
structure Fun (K : Fg) (x qual : Str) (st : Stmt) (f : Addr) (fd : FuncData) : Prop where
  ex : ∃ (oc : Value) (od : Option Addr) (kV doc pm : Value) (an : Option Addr) (cdv ct : Value) (osl : Array (Option Value)),
    fd = PySem.W.fnOf x qual (defArgs st) (defBody st) (defScope st) .none kV doc pm an cdv ct ∧ K.lookup f = some ⟨oc, od, .func fd, osl⟩ ∧ PySem.W.codeIn K cdv qual = true
  kp : PySem.W.keepIn K (.ref f) = true
section
variable {P : Program} {w : World} {K : Fg} {mg : Str → Option Value} {base : Heap}
/-- THE RULE for a def: its body as a term of rules, and the reading of that term -/
theorem Fun.ok {x qual : Str} {st : Stmt} {f : Addr} {fd : FuncData} {N ps : List Str} {k : Nat} {sp : Sp} (F : Fun K x qual st f fd) (S : FnScope N ps (defScope st)) (len : ∀ vs H Q E, sp vs H Q E → vs.length = ps.length)
    (hbody : ∀ (cdv : Value) (A : Around) (outer : List Env) (s : Shared) (H : Hp) (vs : List V) (Q : VK) (E : XK), Room k (A.deeper (envOfC qual (defScope st) s.heap.objs.size f cdv)) → sp vs H Q E →
      ∃ t, PSs (cxOf CX0 P w K mg base N qual (defScope st) f cdv A outer s H E).nox (defBody st) t ∧ t { nx := fun _ H' => Q .non H', rt := Q } (start N vs) H) : FnOk P w K mg base CX0 (k + 1) f fd ps sp := by
  obtain ⟨oc, od, kV, doc, pm, an, cdv, ct, osl, rfl, lk, hcd⟩ := F.ex
  refine fn_of lk hcd S len fun A outer s H vs Q E hr hsp => ?_
  obtain ⟨t, h, q⟩ := hbody cdv A outer s H vs Q E hr hsp
  exact ⟨t, h.nox, q⟩
/-- how its arguments bind (no defaults): h is «fun _ _ _ _ _ _ us hl => match us, hl with | [_, _], _ => rfl», one _ a parameter -/
theorem Fun.binds {x qual : Str} {st : Stmt} {f : Addr} {fd : FuncData} {ps : List Str} (F : Fun K x qual st f fd)
    (h : ∀ (kV doc pm : Value) (an : Option Addr) (cdv ct : Value) (us : List Value), us.length = ps.length → bindArgs (PySem.W.fnOf x qual (defArgs st) (defBody st) (defScope st) .none kV doc pm an cdv ct) ⟨us, []⟩ = pure (ps.zip us)) : Binds K fd ps [] := by
  obtain ⟨oc, od, kV, doc, pm, an, cdv, ct, osl, rfl, lk, hcd⟩ := F.ex
  exact .all (h kV doc pm an cdv ct)
theorem fun_mk {x qual : Str} {st : Stmt} {f : Addr} {oc : Value} {od an : Option Addr} {osl : Array (Option Value)} {kV doc pm cdv ct : Value} (l : K.lookup f = some ⟨oc, od, .func (PySem.W.fnOf x qual (defArgs st) (defBody st) (defScope st) .none kV doc pm an cdv ct), osl⟩)
    (c : PySem.W.codeIn K cdv qual = true) (k : PySem.W.keepIn K (.ref f) = true) : Fun K x qual st f (PySem.W.fnOf x qual (defArgs st) (defBody st) (defScope st) .none kV doc pm an cdv ct) := ⟨⟨oc, od, kV, doc, pm, an, cdv, ct, osl, rfl, l, c⟩, k⟩
end
theorem hu_of {A : Around} {k : Nat} (hr : Room k A) : A.units + 1 < cLine := Nat.lt_of_le_of_lt (Nat.add_le_add_left (by decide : 1 ≤ 64) _) hr.units
theorem small1000 {n : Nat} (h : n ≤ 1000) : n < sizeLine := Nat.lt_of_le_of_lt h (by decide)

/-! ### expressions in short: the name that stands in the i-th slot -/
section
variable {X : Cx}
theorem pv (i : Nat) {x : Str} {pos : Pos} (hN : X.N[i]? = some x := by rfl) (hv : Vis X.env.scope x := by first | exact Or.inl rfl | exact Or.inr (Or.inl rfl) | exact Or.inr (Or.inr rfl)) (hd : (x == ("__debug__" : Str)) = false := by decide)
    (hcd : (x == ("__classdict__" : Str)) = false := by decide) : PE X (.Name x pos) (tVar i) := pe_var hN hv hd hcd
/-- len of a dict -/
theorem call_lenD : CallR X (.builtin "len") (fun xs H Q => ∃ a kvs, xs = [V.ref a] ∧ H a = some (.dK kvs) ∧ Q (.int kvs.length) H) := by
  intro pins s σ H xs us Q I r h
  obtain ⟨a, kvs, rfl, ha, q⟩ := h
  obtain ⟨u, rfl, ru⟩ := vals1 r
  cases ru
  exact d_len I (.inl ha) fun t s' I' => ⟨.int kvs.length, H, I', ⟨t, rfl⟩, q⟩
end

/-! ### tests -/
theorem iteF {A B : Prop} (h : B) : if false = true then A else B := by
  rw [if_neg Bool.false_ne_true]
  exact h
theorem iteT {A B : Prop} (h : A) : if true = true then A else B := by
  rw [if_pos rfl]
  exact h
theorem ite2 {c A B : Prop} [Decidable c] (h1 : c → A) (h2 : ¬ c → B) : if c then A else B := by
  by_cases h : c
  · rw [if_pos h]
    exact h1 h
  · rw [if_neg h]
    exact h2 h
theorem iteNS {c A B : Prop} [Decidable c] (hc : c) (h : B) : if (!decide c) = true then A else B := by
  rw [decide_eq_true hc]
  exact iteF h

/-! ### heaps -/
/-- all that was tracked is as it was -/
def Same (H H' : Hp) : Prop := ∀ b o, H b = some o → H' b = some o
theorem Same.refl (H : Hp) : Same H H := fun _ _ h => h
theorem Same.trans {H H1 H2 : Hp} (a : Same H H1) (b : Same H1 H2) : Same H H2 := fun c o h => b c o (a c o h)
theorem Same.free {H H' : Hp} (e : Same H H') {l : Addr} (h : H' l = Option.none) : H l = Option.none := by
  cases q : H l with
  | none => rfl
  | some o =>
    rw [e l o q] at h
    cases h
/-! ### a dict's pairs: keys that differ -/
section
variable {κ : Type} [DecidableEq κ]
theorem valV_in {kvs : List (κ × V)} {k : κ} {v : V} (h : valV kvs k = some v) : k ∈ kvs.map (·.1) := by
  have q : (kvs.any fun kv => decide (kv.1 = k)) = true := by
    rw [valV_any, h]
    all_goals rfl
  obtain ⟨p, hp, e⟩ := List.any_eq_true.mp q
  exact List.mem_map.mpr ⟨p, hp, of_decide_eq_true e⟩
theorem nd_snoc : ∀ {l : List κ} {k : κ}, l.Nodup → ¬ k ∈ l → (l ++ [k]).Nodup
  | [], k, _, _ => by simp
  | a :: r, k, h, hk => by
    obtain ⟨h1, h2⟩ := List.nodup_cons.mp h
    show (a :: (r ++ [k])).Nodup
    refine List.nodup_cons.mpr ⟨fun m => ?_, nd_snoc h2 fun m => hk (List.mem_cons.mpr (Or.inr m))⟩
    rcases List.mem_append.mp m with q | q
    · exact h1 q
    · exact hk (List.mem_cons.mpr (Or.inl (List.mem_singleton.mp q).symm))
end
end L2


/-! COMPREHENSIONS over the layer: [elt for x in iter if c] -/
namespace L2
open PySem PySem.Spec PyProof.Rows

theorem forIn_fold {α β : Type} {f : α → β → Sem (ForInStep β)} (g : α → β → β) : ∀ (l : List α) (c : β), (∀ x ∈ l, ∀ c, f x c = pure (.yield (g x c))) → forIn l c f = pure (l.foldl (fun c x => g x c) c)
  | [], _, _ => rfl
  | x :: l, c, h => by
    rw [List.forIn_cons, h x List.mem_cons_self, pure_bind]
    exact forIn_fold g l (g x c) fun y hy => h y (List.mem_cons_of_mem _ hy)

/-- one name of a block's scope: its cell of the frame around, if it is free there -/
def closStep (env : Env) (y : Str × NameKind) (cs : List (Str × Addr)) : List (Str × Addr) := if (y.2 == NameKind.free) = true then (y.1, (env.cells.lookup y.1).getD 0) :: cs else cs
def closGo (env : Env) (l : List (Str × NameKind)) (cs : List (Str × Addr)) : List (Str × Addr) := l.foldl (fun cs y => closStep env y cs) cs
def HasCells (env : Env) (l : List (Str × NameKind)) : Prop := ∀ y ∈ l, y.2 = .free → ∃ c, env.cells.lookup y.1 = some c

theorem closFor {sc : Scope} {env : Env} (h : HasCells env sc.names) : closureFor sc env = pure (closGo env sc.names []) := by
  simp only [closureFor]
  rw [forIn_fold (closStep env) sc.names [] (fun y hy cs => by
    obtain ⟨n, k⟩ := y
    unfold closStep
    cases hk : (k == NameKind.free) with
    | false => simp only [hk, Bool.false_eq_true, if_false]
    | true =>
      obtain ⟨c, hc⟩ := h _ hy (by simpa using hk)
      have hc' : env.cells.lookup n = some c := hc
      simp only [hk, if_true, cellOf, hc']
      rfl)]
  rfl

theorem clos_some {env : Env} : ∀ {l : List (Str × NameKind)} {cs : List (Str × Addr)} {y : Str} {c : Addr}, HasCells env l → (closGo env l cs).lookup y = some c → env.cells.lookup y = some c ∨ cs.lookup y = some c
  | [], _, _, _, _, h => .inr h
  | (n, k) :: r, cs, y, c, hl, h => by
    have h : (closGo env r (closStep env (n, k) cs)).lookup y = some c := h
    have hr : HasCells env r := fun z hz => hl z (List.mem_cons_of_mem _ hz)
    rcases clos_some hr h with q | q
    · exact .inl q
    · unfold closStep at q
      by_cases e : (k == NameKind.free) = true
      · rw [if_pos e] at q
        obtain ⟨c0, h0⟩ := hl (n, k) List.mem_cons_self (by simpa using e)
        have h0 : env.cells.lookup n = some c0 := h0
        rw [List.lookup_cons] at q
        cases e2 : (y == n) with
        | true =>
          rw [e2] at q
          have e3 : y = n := by simpa using e2
          subst e3
          left
          rw [h0] at q ⊢
          exact q
        | false =>
          rw [e2] at q
          exact .inr q
      · rw [if_neg e] at q
        exact .inr q

theorem clos_has {env : Env} : ∀ {l : List (Str × NameKind)} {cs : List (Str × Addr)} {y : Str} {c : Addr}, env.cells.lookup y = some c → ((y, NameKind.free) ∈ l ∨ cs.lookup y = some c) → (closGo env l cs).lookup y = some c
  | [], _, _, _, _, h => by
    rcases h with h | h
    · cases h
    · exact h
  | (n, k) :: r, cs, y, c, hc, h => by
    show (closGo env r (closStep env (n, k) cs)).lookup y = some c
    refine clos_has hc ?_
    unfold closStep
    by_cases e : (k == NameKind.free) = true
    · rw [if_pos e]
      by_cases e2 : y = n
      · subst e2
        right
        rw [List.lookup_cons]
        simp [hc]
      · rcases h with h | h
        · rcases List.mem_cons.mp h with q | q
          · cases q; exact absurd rfl e2
          · exact .inl q
        · right
          rw [List.lookup_cons]
          have e3 : (y == n) = false := by simpa using e2
          rw [e3]
          exact h
    · rw [if_neg e]
      rcases h with h | h
      · rcases List.mem_cons.mp h with q | q
        · cases q; exact absurd rfl e
        · exact .inl q
      · exact .inr h

theorem relabel_free {env : Env} (hk : env.scope.kind = .function) : ∀ {names : List (Str × NameKind)} {y : Str}, names.lookup y = some .free → env.kindOf y = some .cell →
    (names.map fun (n, k) => if (k == NameKind.free && env.scope.kind == .function && env.kindOf n == some .cell) then (n, NameKind.cell) else (n, k)).lookup y = some .cell
  | [], _, h, _ => by simp at h
  | (n, k) :: r, y, h, hy => by
    have ih := @relabel_free env hk r y
    show List.lookup y ((if (k == NameKind.free && env.scope.kind == .function && env.kindOf n == some .cell) = true then (n, NameKind.cell) else (n, k)) :: _) = _
    cases hx : y == n with
    | true =>
      simp only [List.lookup_cons, hx] at h
      have e3 : y = n := by simpa using hx
      subst e3
      cases h
      rw [if_pos (by rw [hk, hy]; rfl)]
      simp [List.lookup_cons]
    | false =>
      simp only [List.lookup_cons, hx] at h
      by_cases hc : (k == NameKind.free && env.scope.kind == .function && env.kindOf n == some .cell) = true
      · rw [if_pos hc]; simp only [List.lookup_cons, hx]; exact ih h hy
      · rw [if_neg hc]; simp only [List.lookup_cons, hx]; exact ih h hy
theorem relabel_inv {env : Env} : ∀ {names : List (Str × NameKind)} {y : Str} {k' : NameKind},
    (names.map fun (n, k) => if (k == NameKind.free && env.scope.kind == .function && env.kindOf n == some .cell) then (n, NameKind.cell) else (n, k)).lookup y = some k' → names.lookup y = some k' ∨ names.lookup y = some .free
  | [], _, _, h => by simp at h
  | (n, k) :: r, y, k', h => by
    have h : List.lookup y ((if (k == NameKind.free && env.scope.kind == .function && env.kindOf n == some .cell) = true then (n, NameKind.cell) else (n, k)) :: r.map fun (n, k) => if (k == NameKind.free && env.scope.kind == .function && env.kindOf n == some .cell) then (n, NameKind.cell) else (n, k)) = some k' := h
    cases hx : y == n with
    | true =>
      simp only [List.lookup_cons, hx]
      by_cases hc : (k == NameKind.free && env.scope.kind == .function && env.kindOf n == some .cell) = true
      · right
        have : (k == NameKind.free) = true := by
          simp only [Bool.and_eq_true] at hc
          exact hc.1.1
        have e : k = .free := by simpa using this
        rw [e]
      · rw [if_neg hc] at h
        simp only [List.lookup_cons, hx] at h
        exact .inl h
    | false =>
      simp only [List.lookup_cons, hx]
      by_cases hc : (k == NameKind.free && env.scope.kind == .function && env.kindOf n == some .cell) = true
      · rw [if_pos hc] at h; simp only [List.lookup_cons, hx] at h; exact relabel_inv h
      · rw [if_neg hc] at h; simp only [List.lookup_cons, hx] at h; exact relabel_inv h

/-- the scope of a block within a def: osc, oN the def's scope and names; sc the block's; x its own name; N the names it reads of the def, fr their places in oN -/
structure BlkScope (osc : Scope) (oN : List Str) (sc : Scope) (x : Str) (N : List Str) (fr : List Nat) : Prop where
  kind : sc.kind = .function
  nocell : ∀ y ∈ sc.names, y.2 ≠ .cell
  names : ∀ y ∈ sc.names, y.2 = .local → sc.names.lookup y.1 = some .local
  free : ∀ y ∈ sc.names, y.2 = .free → osc.names.lookup y.1 = some .cell
  xl : sc.names.lookup x = some .local
  nd : (x :: N).Nodup
  ix : fr.map (fun i => oN[i]?) = N.map some
  fk : ∀ y ∈ N, sc.names.lookup y = some .free

/-- the block of a comprehension, as a context: no exception leaves it -/
def blk (X : Cx) (sc : Scope) (N : List Str) (C : Addr) (ex : List Addr) (s : Shared) (H : Hp) : Cx where
  prog := X.prog
  w := X.w
  K := X.K
  mg := X.mg
  base := X.base
  A := X.A
  N := N
  s₀ := s
  H₀ := H
  env := compEnvC sc (closGo X.env sc.names []) C X.env
  outer := X.stack
  stack := X.stack
  ex := ex
  fn := fun _ => false
  calm := X.calm
  pn := []
  xe := fun _ _ => False

section
variable {X : Cx} {pins : Pn} {σ : St} {H : Hp} {s : Shared} {sc : Scope} {x : Str} {N : List Str} {fr : List Nat} {C : Addr} {ex : List Addr}

theorem Inv.cells (I : Inv X pins σ H s) (S : BlkScope X.env.scope X.N sc x N fr) : HasCells X.env sc.names := fun y hy hk => I.ok.has y.1 (.inl (S.free y hy hk))
theorem Inv.clos (I : Inv X pins σ H s) (S : BlkScope X.env.scope X.N sc x N fr) {y : Str} {c : Addr} (h : (closGo X.env sc.names []).lookup y = some c) : X.env.cells.lookup y = some c := by
  rcases clos_some (I.cells S) h with q | q
  · exact q
  · simp at q

theorem blk_ok (I : Inv X pins σ H s) (S : BlkScope X.env.scope X.N sc x N fr) (hC : s.heap.objs.size ≤ C) (hf : ∀ b ∈ ex, FpOk X pins H b) (hlt : ∀ b ∈ ex, b < s.heap.objs.size) : (blk X sc (x :: N) C ex s H).Ok where
  mod := I.ok.mod
  kind := S.kind
  glob := I.ok.glob
  blt := I.ok.blt
  above := hC
  inj := fun a b c h1 h2 => I.ok.inj a b c (I.clos S h1) (I.clos S h2)
  has := fun y hy => by
    have hfree : sc.names.lookup y = some .free := by
      rcases hy with hy | hy
      · rcases relabel_inv (env := X.env) (names := sc.names) hy with q | q
        · exact absurd rfl (S.nocell _ (PySem.mem_of_lookup q))
        · exact q
      · rcases relabel_inv (env := X.env) (names := sc.names) hy with q | q
        · exact q
        · exact q
    obtain ⟨c, hc⟩ := I.cells S (y, .free) (PySem.mem_of_lookup hfree) rfl
    exact ⟨c, clos_has hc (.inl (PySem.mem_of_lookup hfree))⟩
  cab := fun _ _ h => absurd (show false = true from h) Bool.false_ne_true
  hd := I.ok.hd
  frames := I.ok.frames
  stk := .inl rfl
  exf := fun b hb => ⟨Nat.ne_of_lt (Nat.lt_of_lt_of_le (hlt b hb) hC), fun y c h z => (hf b hb).2.2.2.2.1 y c (I.clos S h) z⟩
  bs := I.bs
  bsz := Nat.le_trans I.ok.bsz I.sz
  noex := fun b o e hb => by
    rcases (hf b hb).2.2.2.1 with z | z
    · exact I.ok.noex b o e z
    · exact absurd (Nat.lt_of_lt_of_le (Heap.lt_size e) (Nat.le_trans I.ok.bsz z)) (Nat.lt_irrefl _)
  exfs := fun b hb z => by
    rcases List.mem_cons.mp (I.stkSub b z) with q | q
    · exact (hf b hb).2.1 q
    · exact (hf b hb).2.2.1 q
  funs := I.stack
  frf := I.stkFree

/-- the values of the names around that a block reads -/
def seen (σ : St) (fr : List Nat) : St := fr.map fun i => (σ[i]?).join
theorem seen_get {i : Nat} {v : V} (h : (seen σ fr)[i]? = some (some v)) : ∃ j, fr[i]? = some j ∧ σ[j]? = some (some v) := by
  unfold seen at h
  rw [List.getElem?_map] at h
  cases e : fr[i]? with
  | none => rw [e] at h; cases h
  | some j =>
    rw [e] at h
    refine ⟨j, rfl, ?_⟩
    have h : (σ[j]?).join = some v := Option.some.inj h
    cases e2 : σ[j]? with
    | none => rw [e2] at h; cases h
    | some o => rw [e2] at h; have h : o = some v := h; rw [h]

/-- a block begins -/
theorem blk_start (I : Inv X pins σ H s) (S : BlkScope X.env.scope X.N sc x N fr) (hC : s.heap.objs.size ≤ C) (hf : ∀ b ∈ ex, FpOk X pins H b) (hlt : ∀ b ∈ ex, b < s.heap.objs.size) {h' : Heap} {t' : Nat}
    (hn : ∃ m, h'.Ns C m) (k : ∀ b o, s.heap.get? b = some o → h'.get? b = some o) : Inv (blk X sc (x :: N) C ex s H) [] (none :: seen σ fr) H { s with heap := h', toks := t' } := by
  obtain ⟨m, hn⟩ := hn
  have hlen : fr.length = N.length := by have := congrArg List.length S.ix; simpa using this
  refine ⟨blk_ok I S hC hf hlt, rfl, I.bare, Un.kept k, ⟨m, hn, fun i y v h1 h2 h3 => ?_⟩, fun y c h => ?_, I.hok.fresh hC, fun y c h => I.freeC y c (I.clos S h), fun p hp => absurd (show p ∈ ([] : Pn) from hp) (by simp), I.hok.kept k, ?_⟩
  · cases i with
    | zero => cases (show some (none : Option V) = some (some v) from h2)
    | succ i =>
      have h2 : (seen σ fr)[i]? = some (some v) := h2
      have h1 : N[i]? = some y := h1
      obtain ⟨j, hj, hv⟩ := seen_get h2
      have e1 : (fr.map fun i => X.N[i]?)[i]? = (N.map some)[i]? := by rw [S.ix]
      rw [List.getElem?_map, List.getElem?_map, hj, h1] at e1
      have e1 : X.N[j]? = some y := Option.some.inj e1
      have hfree := S.fk y (List.mem_of_getElem? h1)
      have hcell : X.env.scope.names.lookup y = some .cell := S.free (y, .free) (PySem.mem_of_lookup hfree) rfl
      obtain ⟨m0, _, hl⟩ := I.loc
      obtain ⟨u, ru, l⟩ := hl j y v e1 hv (.inr (.inl hcell))
      refine ⟨u, ru, ?_⟩
      rcases l with ⟨q, _⟩ | ⟨_, c, hc, o, ho, hd⟩
      · have q : X.env.scope.names.lookup y = some .local := q
        rw [hcell] at q
        cases q
      · exact .inr ⟨.inl (relabel_free I.ok.kind hfree hcell), c, clos_has hc (.inl (PySem.mem_of_lookup hfree)), o, k _ o ho, hd⟩
  · obtain ⟨v, o, ho, hd⟩ := I.cell y c (I.clos S h)
    exact ⟨v, o, k _ o ho, hd⟩
  · show (none :: seen σ fr).length = (x :: N).length
    unfold seen
    rw [List.length_cons, List.length_map, hlen, List.length_cons]

theorem Un.track {fs ex : List Addr} {H H' : Hp} {h h' : Heap} {D : Addr} {o : HO} (u : Un fs ex H H' h h') (hn : H' D = none) (hD : h.objs.size ≤ D) : Un fs ex H (upd H' D o) h h' where
  keep := u.keep
  slot := u.slot
  free := fun b ob e n hx => by rw [upd_ne (Nat.ne_of_lt (Nat.lt_of_lt_of_le (Heap.lt_size e) hD))]; exact u.free b ob e n hx
  there := u.there
  tups := fun b xs q => by rw [upd_ne (ne_of_none (u.tups b xs q) hn)]; exact u.tups b xs q
  frzs := fun b ob xs q => by rw [upd_ne (ne_of_none (u.frzs b ob xs q) hn)]; exact u.frzs b ob xs q
  tbls := fun b ps q => by
    obtain ⟨m, e⟩ := u.tbls b ps q
    exact ⟨m, by rw [upd_ne (ne_of_none e hn)]; exact e⟩
theorem HOk.track {P : Program} {w : World} {H : Hp} {h : Heap} {D : Addr} {o : HO} (ok : HOk P w H h) (hn : H D = none) (new : ObjOk P w (upd H D o) h D o) : HOk P w (upd H D o) h := fun b u e => by
  by_cases hb : b = D
  · subst hb; rw [upd_same] at e; cases e; exact new
  · rw [upd_ne hb] at e
    exact (ok b u e).stay (fun _ _ _ q => q) (fun c q => by rw [upd_ne (ne_of_none q hn)]; exact q) fun c xs q => by rw [upd_ne (ne_of_none q hn)]; exact q
end

section
variable {prog : Program} {w : World} {A : Around} {R : Result → Shared → Prop} {s : Shared}
abbrev NoE : Value → Shared → Prop := fun _ _ => False
theorem noE {α : Type} {M : Model} {A : Around} {t : Sem α} {Q : α → Shared → Prop} {E : Value → Shared → Prop} {s : Shared} (h : wpAny M A t Q NoE s) : wpAny M A t Q E s := wpAny_mono h (fun _ _ q => q) fun _ _ z => False.elim z
/-- a comprehension's loop: no exception -/
theorem comp_loop {elt target iter : Expr} {ifs : List Expr} {scope : Scope} {pos : Pos} {it acc : Value} {env : Env} (I : Nat → Shared → Prop)
    (turn : ∀ n s, I n s → wpAny (model prog w) A (pyNext it) (fun r s₁ => match r with
      | none => R (.ok .next) s₁
      | some v => wpAny (model prog w) A (letOwnedTupleGo target it v) (fun _ s₁ => wpAny (model prog w) A (assign target env v) (fun _ s₂ =>
          wpAny (model prog w) A (forIn ifs true fun c r => if r = true then do let ok ← isTrue c env (eval c env); pure (ForInStep.yield ok) else pure (ForInStep.yield r)) (fun ok s₃ =>
            if ok = true then wpAny (model prog w) A (eval elt env) (fun x s₄ =>
              wpAny (model prog w) A (call (.builtin "list.append") [acc, x]) (fun _ s₅ => ∃ m, m < n ∧ I m s₅) NoE s₄) NoE s₃
            else ∃ m, m < n ∧ I m s₃) NoE s₂) NoE s₁) NoE s₁) NoE s)
    (n : Nat) (h : I n s) :
    codeAny (model prog w) A (.compLoop (.ListComp elt [⟨target, iter, ifs, 0⟩] scope pos) 0 it acc env) R s := by
  refine codeAny_loop rfl I (fun n s hI => ?_) n h
  show wpAny _ A ((compTurn (.ListComp elt [⟨target, iter, ifs, 0⟩] scope pos) 0 it acc env).onRaise (fun x => do noteFrame x env; theTreesLotGoes x)) _ _ s
  refine wpAny_noted ?_
  rw [compTurn_list]
  refine noE (wpAny_bind (wpAny_standAt (wpAny_bind (wpAny_mono (turn n s hI) (fun r s₁ h₁ => ?_) fun _ _ h' => h'))))
  cases r with
  | none => exact wpAny_pure h₁
  | some v =>
    refine wpAny_bind (thn h₁ fun _ s₂ h₂ => wpAny_bind (thn h₂ fun _ s₃ h₃ => wpAny_bind (thn h₃ fun ok s₄ h₄ => ?_)))
    cases ok with
    | false => exact wpAny_pure ⟨rfl, h₄⟩
    | true => exact wpAny_bind (wpAny_bind (thn h₄ fun x s₅ h₅ => wpAny_bind (thn h₅ fun _ s₆ h₆ => wpAny_pure (wpAny_pure ⟨rfl, h₆⟩))))
end

/-- the tests of a clause -/
def PIfs (X : Cx) (ifs : List Expr) (t : TT) : Prop :=
  ∀ (pins : Pn) (s : Shared) (σ : St) (H : Hp) (Q : Bool → Hp → Prop), Inv X pins σ H s → t σ H Q →
    wpAny (model X.prog X.w) X.A (forIn ifs true fun c r => if r = true then do let ok ← isTrue c X.env (eval c X.env); pure (ForInStep.yield ok) else pure (ForInStep.yield r)) (TP X pins σ Q) X.xe s
def tNoIf : TT := fun _ H Q => Q true H
theorem pifs_nil {X : Cx} : PIfs X [] tNoIf := fun _ _ _ H _ I h => wpAny_tests_nil ⟨H, I, h⟩
/-- [elt for x in iter if c]: W an invariant over the turn, a measure, the items so far, the heap -/
def tCompK (fr : List Nat) (tc : TT) (te : TE) (σ : St) (Q : VK) : It → Hp → Prop := fun J H1 => ∃ W : Nat → Nat → List V → Hp → Prop, (∃ m, W 0 m [] H1) ∧ ∀ i m ys H, W i m ys H →
  (J.stop i H ∧ ys.length ≤ sizeLine ∧ ∀ p, H p = none → Q (.ref p) (upd H p (.lst ys))) ∨
  (J.go i H ∧ ys.length < sizeLine ∧ ∃ N : List V → Hp → Prop, (∀ ys' H', N ys' H' → ∃ m', m' < m ∧ W (i + 1) m' ys' H') ∧ ∀ v H', J.yld i H v H' → tc (some v :: seen σ fr) H' fun b H2 =>
    if b = true then te (some v :: seen σ fr) H2 fun y H3 => N (ys ++ [y]) H3 else N ys H2)
def tComp (wi : TI) (fr : List Nat) (tc : TT) (te : TE) : TE := fun σ H Q => wi σ H (tCompK fr tc te σ Q)

section
variable {X : Cx} {elt iter : Expr} {x : Str} {px pos : Pos} {ifs : List Expr} {sc : Scope} {N : List Str} {fr : List Nat} {wi : TI} {tc : TT} {te : TE}
abbrev lob (its : List Value) (n : Nat) : Obj := { cls := .type "list", data := .seq its.toArray n }

/-- the heart: the list, the block, the loop; RR is what is wanted behind it -/
theorem comp_core (S : BlkScope X.env.scope X.N sc x N fr) (hcalm : X.calm = true) (hc : ∀ C ex s H, PIfs (blk X sc (x :: N) C ex s H) ifs tc) (he : ∀ C ex s H, PE (blk X sc (x :: N) C ex s H) elt te)
    {pins : Pn} {σ : St} {H : Hp} {s : Shared} {E : Value → Shared → Prop} {it : Addr} {fp : List Addr} {tn : Nat → Heap → Prop} {J : It} {Q : VK} {RR : Value → Addr → Result → Shared → Prop}
    (I : Inv X pins σ H s) (T : Turn X.prog X.w X.K (.Name x px) J fp it tn) (st : tn 0 s.heap) (f2 : ∀ b ∈ fp, FpOk X pins H b)
    (hW : ∃ W : Nat → Nat → List V → Hp → Prop, (∃ m, W 0 m [] H) ∧ ∀ i m ys H, W i m ys H →
      (J.stop i H ∧ ys.length ≤ sizeLine ∧ ∀ p, H p = none → Q (.ref p) (upd H p (.lst ys))) ∨
      (J.go i H ∧ ys.length < sizeLine ∧ ∃ N : List V → Hp → Prop, (∀ ys' H', N ys' H' → ∃ m', m' < m ∧ W (i + 1) m' ys' H') ∧ ∀ v H', J.yld i H v H' → tc (some v :: seen σ fr) H' fun b H2 =>
        if b = true then te (some v :: seen σ fr) H2 fun y H3 => N (ys ++ [y]) H3 else N ys H2))
    (hRR : ∀ (D C : Addr) (H' : Hp) (s' : Shared), Inv X pins σ H' s' → (∃ o, s'.heap.get? C = some o ∧ (∃ m, s'.heap.Ns C m) ∧ ∀ v, o.data ≠ .cell v) → FpOk X pins H' C → Q (.ref D) H' → RR (.ref D) C (.ok .next) s') :
    wpAny (model X.prog X.w) X.A (newList []) (fun acc s₃ => wpAny (model X.prog X.w) X.A (newFunctionEnv sc X.env.globals (closGo X.env sc.names []) [] X.env.qual none .none (some X.env)) (fun cenv s₄ =>
      codeAny (model X.prog X.w) X.A (.compStart (.ListComp elt [⟨.Name x px, iter, ifs, 0⟩] sc pos) 0 (.ref it) acc { cenv with scope := relabel sc X.env }) (RR acc cenv.locals) s₄) E s₃) E s := by
  obtain ⟨W, ⟨m0, w0⟩, turn⟩ := hW
  have hlt : ∀ b ∈ fp, b < s.heap.objs.size := fun b hb => let ⟨o, e, _⟩ := T.obj _ _ st b hb; Heap.lt_size e
  refine wpAny_newObj_type (wpAny_newFunctionEnv S.nocell (by intro y hy; simp at hy) (fun h₁ hns₁ hsb₁ => ?_) S.kind)
  dsimp only at hns₁ hsb₁ ⊢
  generalize hH2 : s.heap.push { cls := .type "list", dict := none, data := .seq ([] : List Value).toArray } = H2 at hns₁ hsb₁ ⊢
  have hC : H2.objs.size = s.heap.objs.size + 1 := by rw [← hH2, Heap.size_push]
  have hDC : s.heap.objs.size ≠ H2.objs.size := by rw [hC]; exact Nat.ne_of_lt (Nat.lt_succ_self _)
  have hCle : s.heap.objs.size ≤ H2.objs.size := by rw [hC]; exact Nat.le_succ _
  have old : ∀ b o, s.heap.get? b = some o → h₁.get? b = some o := fun b o e =>
    hsb₁.extBut b o (by rw [hC]; exact Nat.ne_of_lt (Nat.lt_succ_of_lt (Heap.lt_size e))) (Heap.get?_push_of_some _ (hH2 ▸ Heap.get?_push_of_some _ e))
  have eD : h₁.get? s.heap.objs.size = some (lob [] 0) := hsb₁.extBut _ _ hDC (Heap.get?_push_of_some _ (hH2 ▸ Heap.get?_push_size _ rfl))
  -- the block's own facts
  have fpX : ∀ {H' : Hp} {o : Obj}, (∀ b ∈ fp, H' b = none) → ∀ b ∈ fp, FpOk (blk X sc (x :: N) H2.objs.size fp s H) [(s.heap.objs.size, o)] H' b := fun {H' o} hn b hb => by
    refine ⟨hn b hb, Nat.ne_of_lt (Nat.lt_of_lt_of_le (hlt b hb) hCle), fun z => ?_, .inl hb, fun y c h => (f2 b hb).2.2.2.2.1 y c (I.clos S h), fun p hp z => ?_⟩
    · rcases List.mem_cons.mp (I.stkSub b z) with q | q
      · exact (f2 b hb).2.1 q
      · exact (f2 b hb).2.2.1 q
    · have hp : p = (s.heap.objs.size, o) := by simpa using (show p ∈ [] ++ [(s.heap.objs.size, o)] from hp)
      subst hp
      exact absurd (hlt b hb) (by rw [← z]; exact Nat.lt_irrefl _)
  have pinD : ∀ {pl : Pn} {σ' : St} {H' : Hp} {s' : Shared} {its : List Value} {n : Nat}, Inv (blk X sc (x :: N) H2.objs.size fp s H) pl σ' H' s' → s'.heap.get? s.heap.objs.size = some (lob its n) → H' s.heap.objs.size = none →
      Inv (blk X sc (x :: N) H2.objs.size fp s H) [(s.heap.objs.size, lob its n)] σ' H' s' := fun {pl σ' H' s' its n} J' e hn => by
    refine J'.pins_of fun p hp => ?_
    have hp : p = (s.heap.objs.size, lob its n) := by simpa using hp
    subst hp
    refine ⟨e, hn, hDC, fun z => ?_, fun v z => by cases z⟩
    obtain ⟨_, o, ho, _⟩ := I.stack.mem z
    exact absurd (Heap.lt_size ho) (Nat.lt_irrefl _)
  have IX : Inv (blk X sc (x :: N) H2.objs.size fp s H) [(s.heap.objs.size, lob [] 0)] (none :: seen σ fr) H { s with heap := h₁, toks := s.toks + ([] : List (Str × Value)).length } :=
    pinD (blk_start I S hCle f2 hlt ⟨_, hns₁⟩ old) eD (I.hok.fresh (Nat.le_refl _))
  have st₁ : tn 0 h₁ := T.keep _ _ _ st fun b _ o e => old b o e
  have loop : ∀ s₃ : Shared, s₃ = { s with heap := h₁, toks := s.toks + ([] : List (Str × Value)).length } →
      codeAny (model X.prog X.w) X.A (.compLoop (.ListComp elt [⟨.Name x px, iter, ifs, 0⟩] sc pos) 0 (.ref it) (.ref s.heap.objs.size) (blk X sc (x :: N) H2.objs.size fp s H).env)
        (RR (.ref s.heap.objs.size) H2.objs.size) s₃ := by
    rintro s₃ rfl
    refine comp_loop (fun n s' => ∃ i v0 its c ys H', Inv (blk X sc (x :: N) H2.objs.size fp s H) [(s.heap.objs.size, lob its c)] (v0 :: seen σ fr) H' s' ∧ Vals ys its ∧ tn i s'.heap ∧ (∀ b ∈ fp, H' b = none) ∧ W i n ys H') ?_ m0
      ⟨0, none, [], 0, [], H, IX, .nil, st₁, fun b hb => (f2 b hb).1, w0⟩
    rintro n s4 ⟨i, v0, its, c, ys, H4, I4, rv, st4, fr4, w4⟩
    have pD := I4.pin (s.heap.objs.size, lob its c) (List.mem_append_right _ (List.mem_singleton.mpr rfl))
    rcases turn i n ys H4 w4 with ⟨stop, hz, fin⟩ | ⟨go, hz, NN, hNN, step⟩
    · refine thn (T.done (blk X sc (x :: N) H2.objs.size fp s H) rfl rfl rfl hcalm i _ s4 _ H4 NoE I4 (fpX fr4) st4 stop) fun r s5 ⟨hr, I5⟩ => ?_
      subst hr
      obtain ⟨e5, n5, _⟩ := I5.pin (s.heap.objs.size, lob its c) (List.mem_append_right _ (List.mem_singleton.mpr rfl))
      have e5 : s5.heap.get? s.heap.objs.size = some (lob its c) := e5
      have n5 : H4 s.heap.objs.size = none := n5
      have IF : Inv X pins σ (upd H4 s.heap.objs.size (.lst ys)) s5 := I.call' (ch := fp) I5.os (Un.track I5.base n5 (Nat.le_refl _)) (HOk.track I5.hok n5 ⟨hz, its, c, rv, e5⟩) I5.bare
        fun b hb => ⟨(f2 b hb).2.2.2.1, (f2 b hb).2.1, (f2 b hb).2.2.2.2.1, (f2 b hb).2.2.2.2.2⟩
      obtain ⟨mC, nsC, _⟩ := I5.loc
      obtain ⟨oC, esC, epC, hoC, hdC, _⟩ := id nsC
      refine hRR _ _ _ s5 IF ⟨oC, hoC, ⟨mC, nsC⟩, fun v z => by rw [hdC] at z; cases z⟩ (I.fpOk hCle ?_) (fin _ n5)
      rw [upd_ne (Ne.symm hDC)]
      exact I5.free
    · refine thn (T.item (blk X sc (x :: N) H2.objs.size fp s H) rfl rfl rfl hcalm i _ s4 _ H4 NoE I4 (fpX fr4) st4 go) fun r s5 ⟨u, hr, h5⟩ => ?_
      subst hr
      refine thn h5 fun _ s6 ⟨v, H6, I6, r6, y6, st6, fr6⟩ => ?_
      have I6' := I6.pinned (fpX fr6) (T.obj _ _ st6)
      refine wpAny_assign_Name (store_ok (i := 0) I6' S.nd rfl (.inl (lookup_relabel_local S.xl)) r6 (fun s7 I7 => ?_) (.inr (lookup_relabel_local S.xl)))
      have I7 : Inv (blk X sc (x :: N) H2.objs.size fp s H) ([(s.heap.objs.size, lob its c)] ++ pinsAt fp s6.heap) (some v :: seen σ fr) H6 s7 := I7
      refine thn (hc _ _ _ _ _ s7 _ H6 _ I7 (step v H6 y6)) fun b s8 ⟨H8, I8, q8⟩ => ?_
      have atFp : ∀ {σ' : St} {H' : Hp} {s' : Shared}, Inv (blk X sc (x :: N) H2.objs.size fp s H) ([(s.heap.objs.size, lob its c)] ++ pinsAt fp s6.heap) σ' H' s' → tn (i + 1) s'.heap ∧ ∀ b ∈ fp, H' b = none := fun {σ' H' s'} J' => by
        refine ⟨T.keep _ _ _ st6 fun b hb o e => (J'.pin (b, o) (List.mem_append_right _ (List.mem_append_right _ (mem_pinsAt hb e)))).1, fun b hb => ?_⟩
        obtain ⟨o, e, _⟩ := T.obj _ _ st6 b hb
        exact (J'.pin (b, o) (List.mem_append_right _ (List.mem_append_right _ (mem_pinsAt hb e)))).2.1
      cases b with
      | false =>
        have q8 : NN ys H8 := q8
        obtain ⟨m', hm, w8⟩ := hNN _ _ q8
        obtain ⟨a1, a2⟩ := atFp I8
        exact ⟨m', hm, i + 1, some v, its, c, ys, H8, I8.unpinned, rv, a1, a2, w8⟩
      | true =>
        refine thn (he _ _ _ _ _ s8 _ H8 _ I8 q8) fun y s9 ⟨yv, H9, I9, r9, q9⟩ => ?_
        obtain ⟨m', hm, w9⟩ := hNN _ _ q9
        obtain ⟨e9, n9, _⟩ := I9.pin (s.heap.objs.size, lob its c) (List.mem_append_right _ (List.mem_append_left _ (List.mem_singleton.mpr rfl)))
        have e9 : s9.heap.get? s.heap.objs.size = some (lob its c) := e9
        have n9 : H9 s.heap.objs.size = none := n9
        obtain ⟨a1, a2⟩ := atFp I9
        have hl : ys.length = its.length := rv.length
        refine call_meets F.slot_list_append ⟨_, e9, rfl⟩ F.entry_list_append (F.args_list_append_2 _ _) (PySem.list_append s.heap.objs.size its.toArray c y (by rw [List.size_toArray]; omega)) ⟨e9, ?_⟩
        have q := PySem.IsL.update e9 (·.push y)
        have hpush : its.toArray.push y = (its ++ [y]).toArray := by simp
        rw [hpush] at q
        have kO : ∀ b o, b ≠ s.heap.objs.size → s9.heap.get? b = some o → (s9.heap.update s.heap.objs.size (Obj.mapSeq (·.push y))).get? b = some o := fun b o hb e => (Heap.get?_update_other s9.heap _ (Ne.symm hb)).trans e
        have J1 : Inv (blk X sc (x :: N) H2.objs.size fp s H) [] (some v :: seen σ fr) H9 s9 := I9.pins_of fun p hp => absurd hp (by simp)
        have J2 := J1.turned (it := s.heap.objs.size) (t' := s9.toks) kO n9 hDC (.inr (Nat.le_refl _)) (fun z cc h e => by
          obtain ⟨vv, o, ho, _⟩ := I.cell z cc (I.clos S h)
          exact absurd (Heap.lt_size ho) (by rw [e]; exact Nat.lt_irrefl _)) (fun p hp => absurd (show p ∈ ([] : Pn) from hp) (by simp))
        refine ⟨m', hm, i + 1, some v, its ++ [y], _, ys ++ [yv], H9, pinD J2 q n9, rv.append (.cons r9 .nil), T.keep _ _ _ a1 fun b hb o e => kO b o (Nat.ne_of_lt (hlt b hb)) e, a2, w9⟩
  exact codeAny_compStart_list (loop _ rfl) (T.self _ 0 _ _ _ st₁ (loop _ rfl))

theorem pe_comp (S : BlkScope X.env.scope X.N sc x N fr) (hcalm : X.calm = true) (hi : PI X (.Name x px) iter wi) (hc : ∀ C ex s H, PIfs (blk X sc (x :: N) C ex s H) ifs tc) (he : ∀ C ex s H, PE (blk X sc (x :: N) C ex s H) elt te)
    (hs : ∀ v, foldedSetIterable iter X.env v = pure v := by intro _; rfl) : PE X (.ListComp elt [⟨.Name x px, iter, ifs, 0⟩] sc pos) (tComp wi fr tc te) := by
  intro pins s σ H Q I h
  rw [eval_ListComp]
  refine wpAny_comprehension_free (use := none) rfl hs (closFor (I.cells S)) S.kind S.names (thn (hi pins s σ H _ I h) fun v s1 h1 => thn h1 fun itv s2 h2 => ?_)
  obtain ⟨it, fp, tn, J, H2, e, I2, T, st2, f2, hW⟩ := h2
  subst e
  refine comp_core (RR := fun acc C => compPost (model X.prog X.w) X.A X.xe none (EP X pins σ Q) acc C) S hcalm hc he I2 T st2 f2 hW fun D C H' s' I' ⟨o, ho, ⟨m, hn⟩, hd⟩ fC q => ?_
  obtain ⟨f0, f1, f3, f4, f5, f6⟩ := fC
  exact ⟨m, hn, fun h' hsb => ⟨.ref D, H', I'.turned (t' := s'.toks) (fun b ob hb e => (hsb.2 b hb).trans e) f0 f1 f4 f5 f6, rfl, q⟩⟩

/-- y = [..] on one line: the store comes ahead of the letting go -/
theorem ps_setComp {i : Nat} {y : Str} {py spos : Pos} (S : BlkScope X.env.scope X.N sc x N fr) (hcalm : X.calm = true) (hN : X.N.Nodup) (hi' : X.N[i]? = some y) (hy : Loc X.env.scope y) (hi : PI X (.Name x px) iter wi)
    (hc : ∀ C ex s H, PIfs (blk X sc (x :: N) C ex s H) ifs tc) (he : ∀ C ex s H, PE (blk X sc (x :: N) C ex s H) elt te)
    (hsw : swapsWith (.ListComp elt [⟨.Name x px, iter, ifs, 0⟩] sc pos) (some (.Name y py)) spos.line X.env = pure true := by rfl)
    (hf : X.fn y = true ∨ X.env.scope.names.lookup y = some .local := by first | exact .inl rfl | exact .inr rfl | assumption)
    (hs : ∀ v, foldedSetIterable iter X.env v = pure v := by intro _; rfl) : PS X (.Assign [.Name y py] (.ListComp elt [⟨.Name x px, iter, ifs, 0⟩] sc pos) spos) (tAsg (tComp wi fr tc te) (gName i)) := by
  intro pins s σ H D I h
  rw [exec_Assign_Name_used _ _ _ _ hsw]
  refine wpAny_bind (wpAny_standAt (wpAny_bind ?_))
  show wpAny _ X.A (do let _ ← comprehension (.ListComp elt [⟨.Name x px, iter, ifs, 0⟩] sc pos) sc X.env _ (newList []) false (eval iter X.env) (some (assign (.Name y py) X.env))) _ _ s
  refine wpAny_bind (wpAny_mono (wpAny_comprehension_free (use := some (assign (.Name y py) X.env)) (Q := fun _ s' => SP X pins D .next s') rfl hs (closFor (I.cells S)) S.kind S.names
    (thn (hi pins s σ H _ I h) fun v s1 h1 => thn h1 fun itv s2 h2 => ?_)) (fun _ s' hq => wpAny_pure (wpAny_pure hq)) fun _ _ e => e)
  obtain ⟨it, fp, tn, J, H2, e, I2, T, st2, f2, hW⟩ := h2
  subst e
  refine comp_core (RR := fun acc C => compPost (model X.prog X.w) X.A X.xe (some (assign (.Name y py) X.env)) (fun _ s' => SP X pins D .next s') acc C) (Q := fun v H1 => gName i v σ H1 D.nx) S hcalm hc he I2 T st2 f2 hW fun A C H' s' I' ⟨o, ho, ⟨m, hn⟩, hd⟩ fC q => ?_
  obtain ⟨f0, f1, f3, f4, f5, f6⟩ := fC
  have IP : Inv X (pins ++ [(C, o)]) σ H' s' := I'.pins_of fun p hp => by
    rcases List.mem_append.mp hp with z | z
    · exact I'.pin p (List.mem_append_right _ z)
    · have z : p = (C, o) := by simpa using z
      subst z
      exact ⟨ho, f0, f1, f3, hd⟩
  show wpAny _ X.A (assign (.Name y py) X.env (.ref A)) _ _ s'
  refine wpAny_assign_Name (store_ok (v := .ref A) IP hN hi' hy rfl (fun s5 I5 => ?_) hf)
  have e5 := (I5.pin (C, o) (List.mem_append_right _ (List.mem_append_right _ (List.mem_singleton.mpr rfl)))).1
  refine ⟨m, hn.at' fun ob e => ?_, fun h' hsb => ⟨_, H', I5.unpinned.turned (t' := s5.toks) (fun b ob hb e => (hsb.2 b hb).trans e) f0 f1 f4 f5 f6, q⟩⟩
  rw [ho] at e
  cases e
  exact e5
end

/-! ### the forms one uses -/
/-- over 0 .. n - 1 (or lo ..) -/
theorem comp_range {lo : Int} {n : Nat} {tc : TT} {te : TE} {σ : St} {fr : List Nat} {H : Hp} {Q : VK} (Pv : Nat → List V → Hp → Prop) (h0 : Pv 0 [] H) (hz : ∀ i ys H, Pv i ys H → ys.length ≤ i) (hn : n ≤ sizeLine)
    (hs : ∀ (i : Nat) (ys : List V) (H : Hp), i < n → Pv i ys H → tc (some (.int (lo + i)) :: seen σ fr) H fun b H2 => if b = true then te (some (.int (lo + i)) :: seen σ fr) H2 fun y H3 => Pv (i + 1) (ys ++ [y]) H3 else Pv (i + 1) ys H2)
    (hd : ∀ ys H, Pv n ys H → ∀ p, H p = none → Q (.ref p) (upd H p (.lst ys))) : tCompK fr tc te σ Q (Itr lo n) H := by
  refine ⟨fun i m ys H => m = n - i ∧ i ≤ n ∧ Pv i ys H, ⟨n, by simp, Nat.zero_le _, h0⟩, ?_⟩
  rintro i m ys H ⟨rfl, hi, p⟩
  have hl := hz i ys H p
  by_cases hlt : i < n
  · refine .inr ⟨hlt, by omega, Pv (i + 1), fun ys' H' q => ⟨n - (i + 1), by omega, rfl, hlt, q⟩, fun v H' y => ?_⟩
    obtain ⟨e, y⟩ := y
    subst e y
    exact hs i ys _ hlt p
  · have e : i = n := by omega
    subst e
    exact .inl ⟨Nat.le_refl _, by omega, hd ys H p⟩
/-- over a list that stays as it is -/
theorem comp_list {K : Fg} {a : Addr} {xs : List V} {tc : TT} {te : TE} {σ : St} {fr : List Nat} {H : Hp} {Q : VK} (Pv : Nat → List V → Hp → Prop) (h0 : Pv 0 [] H) (hz : ∀ i ys H, Pv i ys H → ys.length ≤ i) (hn : xs.length ≤ sizeLine)
    (hl : ∀ i ys H, i ≤ xs.length → Pv i ys H → SqL K H a xs)
    (hs : ∀ (i : Nat) (x : V) (ys : List V) (H : Hp), xs[i]? = some x → Pv i ys H → tc (some x :: seen σ fr) H fun b H2 => if b = true then te (some x :: seen σ fr) H2 fun y H3 => Pv (i + 1) (ys ++ [y]) H3 else Pv (i + 1) ys H2)
    (hd : ∀ ys H, Pv xs.length ys H → ∀ p, H p = none → Q (.ref p) (upd H p (.lst ys))) : tCompK fr tc te σ Q (Itl K a) H := by
  refine ⟨fun i m ys H => m = xs.length - i ∧ i ≤ xs.length ∧ Pv i ys H, ⟨xs.length, by simp, Nat.zero_le _, h0⟩, ?_⟩
  rintro i m ys H ⟨rfl, hi, p⟩
  have q0 := hl i ys H hi p
  have hl := hz i ys H p
  by_cases hlt : i < xs.length
  · refine .inr ⟨⟨xs, xs[i], q0, by simp [hlt]⟩, by omega, Pv (i + 1), fun ys' H' q => ⟨xs.length - (i + 1), by omega, rfl, hlt, q⟩, fun v H' y => ?_⟩
    obtain ⟨e, y⟩ := y
    subst e
    exact hs i v ys _ (y xs q0) p
  · have e : i = xs.length := by omega
    subst e
    exact .inl ⟨⟨xs, q0, Nat.le_refl _⟩, by omega, hd ys H p⟩
end L2

/-! MORE RULES over the layer: enumerate, sorted, list(range), isinstance, == of tuples, % by any divisor, defs with defaults -/
namespace L2
open PySem PySem.Spec PyProof.Rows

section
variable {X : Cx} {pins : Pn} {σ : St} {H : Hp} {s : Shared}
/-- two records of ours have turned, a new object lies behind the heap -/
theorem Inv.turned2 {e it : Addr} {h' : Heap} {t' : Nat} {o : HO} (I : Inv X pins σ H s) (hf : ∀ b ∈ [e, it], FpOk X pins H b)
    (k : ∀ b ob, b ≠ e → b ≠ it → s.heap.get? b = some ob → h'.get? b = some ob) (new : ObjOk X.prog X.w (upd H s.heap.objs.size o) h' s.heap.objs.size o) :
    Inv X pins σ (upd H s.heap.objs.size o) { s with heap := h', toks := t' } := by
  obtain ⟨e0, e1, _, e3, e4, e5⟩ := hf e (by simp)
  obtain ⟨i0, i1, _, i3, i4, i5⟩ := hf it (by simp)
  have ne : ∀ b ob, s.heap.get? b = some ob → b ≠ s.heap.objs.size := fun b ob q => Nat.ne_of_lt (Heap.lt_size q)
  have hn : H s.heap.objs.size = none := I.hok.fresh (Nat.le_refl _)
  have notin : ∀ b, b ∉ [e, it] → b ≠ e ∧ b ≠ it := fun b hb => ⟨fun z => hb (by simp [z]), fun z => hb (by simp [z])⟩
  refine I.step (g' := s.gens) (d' := s.drawn) (ch := [e, it]) (fun b hb => ?_) (fun b ob _ _ hc q _ => k b ob (notin b hc).1 (notin b hc).2 q) (fun b ob _ _ hc q _ => ⟨ob.slots, k b ob (notin b hc).1 (notin b hc).2 q⟩)
    (fun b ob _ q n => by rw [upd_ne (ne b ob q)]; exact n) (fun b ob hc q => ⟨ob, k b ob (notin b hc).1 (notin b hc).2 q⟩) (fun b xs q => by rw [upd_ne (ne_of_none q hn)]; exact q)
    (fun b ob u q => by rw [upd_ne (ne_of_none q hn)]; exact q) (fun b ps q => ⟨#[], by rw [upd_ne (ne_of_none q hn), q]; simp⟩) (fun m hm => ?_) (fun b u q => ?_) I.bare
  · rcases List.mem_cons.mp hb with z | z
    · subst z; exact ⟨e3, e1, e4, e5⟩
    · have z : b = it := by simpa using z
      subst z; exact ⟨i3, i1, i4, i5⟩
  · obtain ⟨ob, es, ep, ho, r⟩ := hm
    exact ⟨ob, es, ep, k _ ob (Ne.symm e1) (Ne.symm i1) ho, r⟩
  · by_cases hb : b = s.heap.objs.size
    · subst hb; rw [upd_same] at q; cases q; exact new
    · rw [upd_ne hb] at q
      have nfp : ∀ c v, H c = some v → c ≠ e ∧ c ≠ it := fun c v z => ⟨ne_of_none z e0, ne_of_none z i0⟩
      refine (I.hok b u q).stay (fun c v hc z => ?_) (fun c z => by rw [upd_ne (ne_of_none z hn)]; exact z) fun c xs z => by rw [upd_ne (ne_of_none z hn)]; exact z
      rcases hc with y | y
      · subst y; exact k _ v (nfp _ _ q).1 (nfp _ _ q).2 z
      · exact k _ v (nfp _ _ y).1 (nfp _ _ y).2 z
end

section
variable {P : Program} {w : World} {H : Hp} {h : Heap} {a : Addr} {o : HO}
theorem ObjOk.has (x : ObjOk P w H h a o) : ∃ ob, h.get? a = some ob := by
  cases o with
  | lst xs => obtain ⟨_, _, _, _, e⟩ := x; exact ⟨_, e⟩
  | tup xs => obtain ⟨_, _, _, ob, e, _⟩ := x; exact ⟨_, e⟩
  | dK kvs => obtain ⟨_, _, _, _, ob, _, _, e, _⟩ := x; exact ⟨_, e⟩
  | dT kvs => obtain ⟨_, _, _, _, ob, _, _, e, _⟩ := x; exact ⟨_, e⟩
  | set S n => obtain ⟨ob, _, _, _, e, _⟩ := x; exact ⟨_, e⟩
  | ins C dx fs => obtain ⟨_, _, _, e, _⟩ := x; exact ⟨_, e⟩
  | own y => exact x
  | xd fs => obtain ⟨_, ⟨_, _, _, e, _⟩, _⟩ := x; exact ⟨_, e⟩
  | rng lo hi => obtain ⟨_, _, _, e⟩ := x; exact ⟨_, e⟩
  | frz ob u => obtain ⟨e, _⟩ := x; exact ⟨_, e⟩
  | tbl ps => exact ⟨_, x⟩
  | met f y => exact ⟨_, x⟩
  | ext φ => obtain ⟨_, e, _⟩ := x; exact e
theorem HOk.freeAt (x : HOk P w H h) (e : h.get? a = none) : H a = none := by
  cases q : H a with
  | none => rfl
  | some u =>
    obtain ⟨ob, z⟩ := (x a u q).has
    rw [z] at e; cases e
end
section
variable {X : Cx} {pins : Pn} {σ : St} {H : Hp} {s : Shared}
/-- a new object laid and tracked, where nothing lay -/
theorem Inv.laidN {a : Addr} {o : HO} {t' : Nat} {h' : Heap} (I : Inv X pins σ H s) (k : ∀ b u, s.heap.get? b = some u → h'.get? b = some u) (ha : s.heap.get? a = none) (new : ObjOk X.prog X.w (upd H a o) h' a o) :
    Inv X pins σ (upd H a o) { s with heap := h', toks := t' } := by
  have hn := I.hok.freeAt ha
  have ne : ∀ b u, s.heap.get? b = some u → b ≠ a := fun b u q z => by rw [z, ha] at q; cases q
  refine I.un ⟨fun b u q _ _ _ => k b u q, fun b u q _ _ _ => ⟨u.slots, k b u q⟩, fun b u q n _ => by rw [upd_ne (ne b u q)]; exact n, fun b u q _ => ⟨u, k b u q⟩, fun b xs q => by rw [upd_ne (ne_of_none q hn)]; exact q,
    fun b u xs q => by rw [upd_ne (ne_of_none q hn)]; exact q, fun b ps q => ⟨#[], by rw [upd_ne (ne_of_none q hn), q]; simp⟩⟩ fun b u q => ?_
  by_cases hb : b = a
  · subst hb; rw [upd_same] at q; cases q; exact new
  · rw [upd_ne hb] at q
    exact (I.hok b u q).stay (fun c v _ z => k c v z) (fun c z => by rw [upd_ne (ne_of_none z hn)]; exact z) fun c xs z => by rw [upd_ne (ne_of_none z hn)]; exact z
end

/-! ### enumerate(xs), xs a tracked list -/
def Ite (a : Addr) : It :=
  ⟨fun i H => ∃ xs x, H a = some (.lst xs) ∧ xs[i]? = some x,
   fun i H v H' => ∃ p x, H p = none ∧ v = .ref p ∧ H' = upd H p (.tup [.int (i : Int), x]) ∧ ∀ xs, H a = some (.lst xs) → xs[i]? = some x,
   fun i H => ∃ xs, H a = some (.lst xs) ∧ xs.length ≤ i⟩
theorem turn_enum {P : Program} {w : World} {K : Fg} {elts : List Expr} {x1} {pos : Pos} (a e it : Addr) (hne : e ≠ it) :
    Turn P w K (.Tuple elts x1 pos) (Ite a) [e, it] e (fun i h => ∃ old, IsEnum h e it ((i : Nat) : Int) old ∧ h.IsListIter it a i) where
  mem := by simp
  obj := fun i h st b hb => by
    obtain ⟨old, he, o, ho, hc, hd⟩ := st
    rcases List.mem_cons.mp hb with z | z
    · subst z; exact ⟨_, he, fun v z => by cases z⟩
    · have z : b = it := by simpa using z
      subst z; exact ⟨o, ho, fun v z => by rw [hd] at z; cases z⟩
  keep := fun i h h' ⟨old, he, hit⟩ k => ⟨old, k e (by simp) _ he, hit.at fun o q => k it (by simp) o q⟩
  item := by
    intro X hP hw hK hc i pins s σ H E I hf st hg
    subst hP hw hK
    obtain ⟨old, he, hit⟩ := st
    obtain ⟨xs, x, hq, hx⟩ := hg
    obtain ⟨its, rv, p, hz⟩ := I.list (SqL.of hq)
    obtain ⟨u, hu, ru⟩ := rv.get hx
    refine wpAny_pyNext_enum_item he hit p.isList (x := u) (by simpa using hu) hne fun h1 heo hit1 ht1 hz1 hk1 => ⟨_, rfl, ?_⟩
    refine wpAny_letOwnedTupleGo_enum heo fun h2 he2 hs2 => ?_
    have hs2 : Heap.SameBut e h1 h2 := hs2
    have heH : e < s.heap.objs.size := Heap.lt_size he
    have hn : H s.heap.objs.size = none := I.hok.fresh (Nat.le_refl _)
    have ht2 : h2.get? s.heap.objs.size = some { cls := .type "tuple", data := .seq #[.int i s.toks, u] } := (hs2.2 _ (Nat.ne_of_gt heH)).trans ht1
    have I2 : Inv X pins σ (upd H s.heap.objs.size (.tup [.int (i : Int), x])) { s with heap := h2, toks := s.toks + 1 } := by
      refine I.turned2 hf (fun b ob h1' h2' q => (hs2.2 b h1').trans (hk1 b ob h1' h2' q)) ?_
      exact ⟨by rw [sizeLine_eq]; simp, [.int i s.toks, u], .cons ⟨_, rfl⟩ (.cons ru .nil), ⟨_, ht2, rfl, 0, rfl⟩⟩
    refine ⟨.ref s.heap.objs.size, _, I2, rfl, ⟨_, x, hn, rfl, rfl, fun ys hy => ?_⟩, ⟨u, ?_, ?_⟩, fun b hb => ?_⟩
    · rw [hq] at hy; cases hy; exact hx
    · have : ((i + 1 : Nat) : Int) = (i : Int) + 1 := by push_cast; rfl
      rw [this]; exact he2
    · exact hit1.extBut hs2.extBut (Ne.symm hne)
    · rw [upd_ne]
      · exact (hf b hb).1
      · rcases List.mem_cons.mp hb with z | z
        · subst z; exact Nat.ne_of_lt heH
        · have z : b = it := by simpa using z
          subst z
          obtain ⟨o, ho, _⟩ := hit
          exact Nat.ne_of_lt (Heap.lt_size ho)
  done := by
    intro X hP hw hK hc i pins s σ H E I hf st hg
    subst hP hw hK
    obtain ⟨old, he, hit⟩ := st
    obtain ⟨xs, hq, hx⟩ := hg
    obtain ⟨its, rv, p, hz⟩ := I.list (SqL.of hq)
    obtain ⟨f0, f1, f2, f3, f4, f5⟩ := hf it (by simp)
    have hl := rv.length
    exact wpAny_pyNext_enum_end (I.ok.hd hc) he hit p.isList (by simp; omega) fun h' eb => ⟨rfl, I.turned (t' := s.toks) (fun b o hb e => eb b o hb e) f0 f1 f3 f4 f5⟩
  self := fun _ _ _ _ _ ⟨_, he, _⟩ h => wpAny_pyIter_enum he h

section
variable {X : Cx}
def iEnum (ta : TA) : TI := fun σ H R => ta σ H fun vs H1 => ∃ a xs, vs = [.ref a] ∧ H1 a = some (.lst xs) ∧ R (Ite a) H1
theorem pi_enum {elts : List Expr} {x1} {tpos : Pos} {l : Expr} {ta : TA} {p pos : Pos} (hg : Gl X "enumerate") (hm : X.mg "enumerate" = none) (ha : PA X [l] ta) (hs : starEach [l] X.env = [(false, eval l X.env)] := by rfl) :
    PI X (.Tuple elts x1 tpos) (.Call (.Name "enumerate" p) [l] [] pos) (iEnum ta) := by
  intro pins s σ H R I h
  refine Call_ (ld_blt I hg hm boot_enumerate (PyProof.Rows.callWith_type1 (thn (ha pos pins s σ H _ I h) fun us s1 ⟨vs, H1, I1, r1, q1⟩ => ?_) hs rfl))
  obtain ⟨a, xs, e, hq, q⟩ := q1
  subst e
  obtain ⟨u, rfl, ru⟩ := vals1 r1
  cases ru
  obtain ⟨z, its, n, rv, eo⟩ := I1.hok a _ hq
  refine call_enumerate_1 eo fun h' he hit hz hk => wpAny_pyIter_enum he ?_
  have I2 : Inv X pins σ H1 { s1 with heap := h' } := I1.kept (t' := s1.toks) hk
  refine ⟨_, [s1.heap.objs.size + 1, s1.heap.objs.size], _, _, H1, rfl, I2, turn_enum a _ _ (Nat.succ_ne_self _), ⟨.none, he, hit⟩, fun b hb => ?_, q⟩
  rcases List.mem_cons.mp hb with z | z
  · subst z; exact I1.fpOk (Nat.le_succ _) (I1.hok.fresh (Nat.le_succ _))
  · have z : b = s1.heap.objs.size := by simpa using z
    subst z; exact I1.fpOk (Nat.le_refl _) (I1.hok.fresh (Nat.le_refl _))
end
theorem for_enum {a : Addr} {xs : List V} {g : TG} {tb : TS} {D : Ends} {σ : St} {H : Hp} (Pv : Nat → St → Hp → Prop) (h0 : Pv 0 σ H) (hl : ∀ i σ H, i ≤ xs.length → Pv i σ H → H a = some (.lst xs))
    (hs : ∀ i x σ H p, xs[i]? = some x → Pv i σ H → H p = none → g (.ref p) σ (upd H p (.tup [.int (i : Int), x])) fun σ2 H2 => tb { D with nx := Pv (i + 1), ct := Pv (i + 1), bk := D.nx } σ2 H2) (hd : ∀ σ H, Pv xs.length σ H → D.nx σ H) :
    ∃ W : Nat → Nat → St → Hp → Prop, (∃ m, W 0 m σ H) ∧ ∀ i m σ H, W i m σ H →
      ((Ite a).stop i H ∧ D.nx σ H) ∨ ((Ite a).go i H ∧ ∃ N : St → Hp → Prop, (∀ σ' H', N σ' H' → ∃ m', m' < m ∧ W (i + 1) m' σ' H') ∧ ∀ x H', (Ite a).yld i H x H' → g x σ H' fun σ2 H2 => tb { D with nx := N, ct := N, bk := D.nx } σ2 H2) := by
  refine ⟨fun i m σ H => m = xs.length - i ∧ i ≤ xs.length ∧ Pv i σ H, ⟨xs.length, by simp, Nat.zero_le _, h0⟩, ?_⟩
  rintro i m σ H ⟨rfl, hi, p⟩
  have q := hl i σ H hi p
  by_cases hlt : i < xs.length
  · refine .inr ⟨⟨xs, xs[i], q, by simp [hlt]⟩, Pv (i + 1), fun σ' H' p' => ⟨xs.length - (i + 1), by omega, rfl, hlt, p'⟩, fun v H' y => ?_⟩
    obtain ⟨pp, x, hp, e1, e2, hx⟩ := y
    subst e1 e2
    exact hs i x σ H pp (hx xs q) p hp
  · have e : i = xs.length := by omega
    subst e
    exact .inl ⟨⟨xs, q, Nat.le_refl _⟩, hd σ H p⟩
/-- a, b = the pair that enumerate hands out -/
def gPair (i j : Nat) : TG := fun v σ H Q => ∃ p x y, v = .ref p ∧ H p = some (.tup [x, y]) ∧ Q ((σ.set i (some x)).set j (some y)) H
theorem pg_pair {X : Cx} {i j : Nat} {x y : Str} {px py pos : Pos} {k : Nat} (hc : X.calm = true) (hN : X.N.Nodup) (hi : X.N[i]? = some x) (hj : X.N[j]? = some y) (hx : Loc X.env.scope x) (hy : Loc X.env.scope y)
    (hfx : X.fn x = true ∨ X.env.scope.names.lookup x = some .local := by first | exact .inl rfl | exact .inr rfl | assumption) (hfy : X.fn y = true ∨ X.env.scope.names.lookup y = some .local := by first | exact .inl rfl | exact .inr rfl | assumption) :
    PG X (.Tuple [.Name x px, .Name y py] k pos) (gPair i j) := by
  intro pins s σ H v u Q I r h
  obtain ⟨p, a, b, rfl, hp, q⟩ := h
  have h := pg_tup (pos := pos) (k := k) (n := 2) hc (pgs_cons (pg_name (pos := px) (i := i) hN hi hx hfx) (pgs_cons (pg_name (pos := py) (i := j) hN hj hy hfy) pgs_nil))
  exact h pins s σ H (.ref p) u Q I r ⟨p, [a, b], rfl, SqT.of hp, rfl, a, [b], rfl, b, [], rfl, rfl, q⟩

/-! ### range(a, b) as a value, list(range) -/
section
variable {X : Cx}
def intsUp (lo : Int) (n : Nat) : List Int := (List.range n).map fun (k : Nat) => lo + (k : Int)
theorem intsUp_length (lo : Int) (n : Nat) : (intsUp lo n).length = n := by simp [intsUp]
theorem intsUp_get {lo : Int} {n i : Nat} (h : i < n) : (intsUp lo n)[i]? = some (lo + i) := by simp [intsUp, h]
/-! ### sorted, of fewer than 64 intsUp -/
theorem vals_intsV : ∀ {us : List Value} {ns : List Int}, IntsAre us ns → Vals (ns.map V.int) us
  | _, _, .nil => .nil
  | _, _, .cons n t h => .cons ⟨t, rfl⟩ (vals_intsV h)
theorem intsAre_at : ∀ {us : List Value} {ns : List Int}, us.length = ns.length → (∀ (i : Nat) (n : Int) (u : Value), ns[i]? = some n → us[i]? = some u → ∃ t, u = Value.int n t) → IntsAre us ns
  | [], [], _, _ => .nil
  | [], _ :: _, h, _ => by simp at h
  | _ :: _, [], h, _ => by simp at h
  | u :: us, n :: ns, h, f => by
    obtain ⟨t, e⟩ := f 0 n u rfl rfl
    subst e
    exact .cons n t (intsAre_at (by simpa using h) fun i y v h1 h2 => f (i + 1) y v (by simpa using h1) (by simpa using h2))
theorem call_sortedD (hc : X.A.handled = none) : CallR X (.builtin "sorted") (fun xs H Q => ∃ (d : Addr) (kvs : List (Key × V)) (ns : List Int), xs = [.ref d] ∧ H d = some (.dK kvs) ∧ kvs.map (·.1) = ns.map (fun n => (Sum.inl n : Key)) ∧ ns.length < 64 ∧
    ∀ (p : Addr) (ns' : List Int), H p = none → ns'.Perm ns → ns'.Pairwise (· ≤ ·) → Q (.ref p) (upd H p (.lst (ns'.map V.int)))) := by
  intro pins s σ H xs us Q I r h
  obtain ⟨d, kvs, ns, rfl, hd, hk, h64, q⟩ := h
  obtain ⟨u, rfl, ru⟩ := vals1 r
  cases ru
  obtain ⟨hz, hS, vs, rel, dd⟩ := dk_of I.hok hd
  obtain ⟨ep, hat⟩ := dd.dictAt
  have hlen : kvs.length = vs.length := rel.length
  have hkl : kvs.length = ns.length := by have := congrArg List.length hk; simpa using this
  have hks : vs.map (·.1) = ns.map (fun n => (Sum.inl n : Key)) := by rw [← hk]; exact (KV.keys rel).symm
  refine Calls.call_function_entry kind_sorted plain_sorted entry_sorted (args_sorted1 _) ?_
  unfold Builtin.«sorted»
  refine wpAny_bind (m := checkCount "sorted" 1 1 _) (wpAny_pure ?_)
  refine wpAny_bind (PySem.W.kdu_collect (A := X.A.in1) (PySem.W.kdl_dict (knd := mixKind X.prog X.w) (kvs := vs) (ep := ep) hS) hc hat (by rw [← hlen]; exact hz) fun h' tk acc hkp hacc => ?_)
  have hal : acc.toList.length = ns.length := by rw [Array.length_toList, hacc.1, ← hlen, hkl]
  have hI : IntsAre acc.toList ns := intsAre_at hal fun i n v e1 e2 => by
    obtain ⟨k, x, e3, e4⟩ := hacc.2 i v (by rw [← Array.getElem?_toList]; exact e2)
    have e5 : (vs.map (·.1))[i]? = some k := by rw [List.getElem?_map, e3]; rfl
    rw [hks, List.getElem?_map, e1] at e5
    have e5 : (Sum.inl n : Key) = k := Option.some.inj e5
    subst e5
    have e4 : Value.isInt n v = true := e4
    obtain ⟨t, e⟩ := Value.isInt_shape e4
    exact ⟨t, e⟩
  refine wpAny_bind (wpAny_newList ?_ (by rw [hal, sizeLine_eq]; omega))
  have hoL : (h'.push (seqObj "list" acc.toList.toArray 0)).get? h'.objs.size = some (seqObj "list" acc.toList.toArray 0) := Heap.get?_push_size _ rfl
  refine wpAny_bind (wpAny_holding (wpAny_call_entry slot_list_sort ⟨_, hoL, rfl⟩ entry_list_sort (list_sort_tree (s := { s with heap := h'.push (seqObj "list" acc.toList.toArray 0), toks := tk }) hoL hI (by omega) fun out ns' a1 a2 a3 => ⟨_, rfl, ?_⟩) (args_list_sort _)))
  refine wpAny_pure ⟨_, rfl, ?_⟩
  obtain ⟨e, eo⟩ := sortedHeap_at (out := out) hoL
  have hfree : s.heap.get? h'.objs.size = none := by
    cases z : s.heap.get? h'.objs.size with
    | none => rfl
    | some o0 => exact absurd (Heap.lt_size (hkp _ o0 z)) (Nat.lt_irrefl _)
  refine ⟨.ref h'.objs.size, _, I.laidN (t' := tk) (o := .lst (ns'.map V.int)) (fun b ob q => ?_) hfree ?_, rfl, q _ ns' (I.hok.freeAt hfree) a2 a3⟩
  · rw [sortedHeap_old (Nat.ne_of_lt (Heap.lt_size (hkp b ob q))) (by rw [size_push']; exact Nat.lt_succ_of_lt (Heap.lt_size (hkp b ob q)))]
    exact Heap.get?_push_of_some _ (hkp b ob q)
  · exact ⟨by rw [List.length_map, a2.length_eq, sizeLine_eq]; omega, out.toList, e, vals_intsV a1, by simpa using eo⟩
end
end L2
namespace L2
open PySem PySem.Spec PyProof.Rows
/-! ### isinstance(x, T), T a built-in type -/
section
variable {X : Cx}
theorem call_isi : CallR X (.builtin "isinstance") (fun xs H Q => ∃ x T t b, xs = [x, .ty T] ∧ TyOf X.K H x t ∧ PySem.W.kitOne X.K t (.type T) = some b ∧ Q (.bl b) H) := by
  intro pins s σ H xs us Q I r h
  obtain ⟨x, T, t, b, rfl, ty, e, q⟩ := h
  obtain ⟨u, w', rfl, rx, rT⟩ := vals2 r
  cases rT
  exact isinst_ok I rx ty e fun tk => ⟨.bl b, H, I.tok tk, rfl, q⟩
/-- == of two tuples of plain items -/
def eqT (xs ys : List V) : Bool := xs.length == ys.length && (xs.zip ys).all fun p => eqV p.1 p.2
def rEqT (K : Fg) : R2 := fun x y H Q => ∃ a b xs ys, x = .ref a ∧ y = .ref b ∧ SqT K H a xs ∧ SqT K H b ys ∧ xs.all flatV = true ∧ ys.all flatV = true ∧ Q (.bl (eqT xs ys)) H
theorem all_flat {xs : List V} (h : xs.all flatV = true) {i : Nat} {x : V} (e : xs[i]? = some x) : flatV x = true := List.all_eq_true.mp h x (List.mem_of_getElem? e)
theorem eqT_range {xs ys : List V} {e : Nat → Bool} (he : ∀ j x y, xs[j]? = some x → ys[j]? = some y → e j = eqV x y) : ((List.range (min xs.length ys.length)).all e && xs.length == ys.length) = eqT xs ys := by
  unfold eqT
  rw [Bool.and_comm]
  congr 1
  rw [Bool.eq_iff_iff, List.all_eq_true, List.all_eq_true]
  constructor
  · intro h p hp
    obtain ⟨j, hj⟩ := List.getElem?_of_mem hp
    rw [List.getElem?_zip_eq_some] at hj
    have h1 := (List.getElem?_eq_some_iff.mp hj.1).1
    have h2 := (List.getElem?_eq_some_iff.mp hj.2).1
    rw [← he j _ _ hj.1 hj.2]
    exact h j (List.mem_range.mpr (by omega))
  · intro h j hj
    have hj := List.mem_range.mp hj
    have h1 : xs[j]? = some xs[j] := List.getElem?_eq_getElem (by omega)
    have h2 : ys[j]? = some ys[j] := List.getElem?_eq_getElem (by omega)
    rw [he j _ _ h1 h2]
    exact h (xs[j], ys[j]) (List.mem_of_getElem? (i := j) (List.getElem?_zip_eq_some.mpr ⟨h1, h2⟩))
theorem op_eqT (hu : X.A.units < cLine) : OpR X (compareOp .Eq) (rEqT X.K) := by
  intro pins s σ H x y v u Q I rx ry h
  obtain ⟨a, b, xs, ys, rfl, rfl, ha, hb, fx, fy, q⟩ := h
  cases rx
  cases ry
  obtain ⟨its, r1, p1, _⟩ := I.tuple ha
  obtain ⟨its2, r2, p2, _⟩ := I.tuple hb
  have l1 := r1.length
  have l2 := r2.length
  refine SeqAt.eq_tupleAt (e := fun j => match xs[j]?, ys[j]? with | some x, some y => eqV x y | _, _ => false) (show s.heap.IsTuple a its.toArray from p1) (show s.heap.IsTuple b its2.toArray from p2) hu (fun j h1 h2 => ?_) ?_
  · have h1 : j < its.length := by simpa using h1
    have h2 : j < its2.length := by simpa using h2
    have e1 : xs[j]? = some (xs[j]'(by omega)) := List.getElem?_eq_getElem (by omega)
    have e2 : ys[j]? = some (ys[j]'(by omega)) := List.getElem?_eq_getElem (by omega)
    obtain ⟨u1, q1, s1⟩ := r1.get e1
    obtain ⟨u2, q2, s2⟩ := r2.get e2
    have w1 : its.toArray[j] = u1 := by
      have := List.getElem?_eq_getElem h1
      rw [q1] at this
      simpa using (Option.some.inj this).symm
    have w2 : its2.toArray[j] = u2 := by
      have := List.getElem?_eq_getElem h2
      rw [q2] at this
      simpa using (Option.some.inj this).symm
    rw [w1, w2, e1, e2]
    exact eqAt_V s1 s2 (all_flat fx e1) (all_flat fy e2)
  · rw [List.size_toArray, List.size_toArray, ← l1, ← l2, eqT_range (xs := xs) (ys := ys) (fun j x y h1 h2 => by rw [h1, h2])]
    exact ⟨.bl _, H, I, rfl, q⟩
end
/-! ### defs with defaults -/
structure FunD (K : Fg) (x qual : Str) (st : Stmt) (f : Addr) (fd : FuncData) (ds : List Value) : Prop where
  ex : ∃ (oc : Value) (od : Option Addr) (T : Addr) (kV doc pm : Value) (an : Option Addr) (cdv ct : Value) (osl : Array (Option Value)) (oT : Obj) (n : Nat),
    fd = PySem.W.fnOf x qual (defArgs st) (defBody st) (defScope st) (.ref T) kV doc pm an cdv ct ∧ K.lookup f = some ⟨oc, od, .func fd, osl⟩ ∧ PySem.W.codeIn K cdv qual = true ∧ K.lookup T = some oT ∧ oT.data = .seq ds.toArray n
  kp : PySem.W.keepIn K (.ref f) = true
section
variable {P : Program} {w : World} {K : Fg} {mg : Str → Option Value} {base : Heap}
theorem FunD.ok {x qual : Str} {st : Stmt} {f : Addr} {fd : FuncData} {ds : List Value} {N ps : List Str} {k : Nat} {sp : Sp} (F : FunD K x qual st f fd ds) (S : FnScope N ps (defScope st)) (len : ∀ vs H Q E, sp vs H Q E → vs.length = ps.length)
    (hbody : ∀ (cdv : Value) (A : Around) (outer : List Env) (s : Shared) (H : Hp) (vs : List V) (Q : VK) (E : XK), Room k (A.deeper (envOfC qual (defScope st) s.heap.objs.size f cdv)) → sp vs H Q E →
      ∃ t, PSs (cxOf CX0 P w K mg base N qual (defScope st) f cdv A outer s H E).nox (defBody st) t ∧ t { nx := fun _ H' => Q .non H', rt := Q } (start N vs) H) : FnOk P w K mg base CX0 (k + 1) f fd ps sp := by
  obtain ⟨oc, od, T, kV, doc, pm, an, cdv, ct, osl, oT, n, rfl, lk, hcd, _⟩ := F.ex
  refine fn_of lk hcd S len fun A outer s H vs Q E hr hsp => ?_
  obtain ⟨t, h, q⟩ := hbody cdv A outer s H vs Q E hr hsp
  exact ⟨t, h.nox, q⟩
/-- the arguments bind, the last ones by defaults es (the end of ds) -/
theorem FunD.binds {x qual : Str} {st : Stmt} {f : Addr} {fd : FuncData} {ds es : List Value} {ps : List Str} (F : FunD K x qual st f fd ds)
    (h : ∀ (T : Addr) (kV doc pm : Value) (an : Option Addr) (cdv ct : Value) (us : List Value), (us ++ es).length = ps.length → ∃ k : Option (Array Value) → Sem (List (Str × Value)),
      bindArgs (PySem.W.fnOf x qual (defArgs st) (defBody st) (defScope st) (.ref T) kV doc pm an cdv ct) ⟨us, []⟩ = seqItems? (.ref T) >>= k ∧ k (some ds.toArray) = pure (ps.zip (us ++ es))) : Binds K fd ps es := by
  obtain ⟨oc, od, T, kV, doc, pm, an, cdv, ct, osl, oT, n, rfl, lk, hcd, hT, hd⟩ := F.ex
  intro s us KX hl
  obtain ⟨k, h1, h2⟩ := h T kV doc pm an cdv ct us hl
  exact BindsTo.of_defaults rfl (KX _ _ hT) hd h1 h2
theorem funD_mk {x qual : Str} {st : Stmt} {f T : Addr} {oc : Value} {od an : Option Addr} {osl : Array (Option Value)} {kV doc pm cdv ct : Value} {oT : Obj} {ds : List Value} {n : Nat} (l : K.lookup f = some ⟨oc, od, .func (PySem.W.fnOf x qual (defArgs st) (defBody st) (defScope st) (.ref T) kV doc pm an cdv ct), osl⟩)
    (c : PySem.W.codeIn K cdv qual = true) (k : PySem.W.keepIn K (.ref f) = true) (hT : K.lookup T = some oT) (hd : oT.data = .seq ds.toArray n) : FunD K x qual st f (PySem.W.fnOf x qual (defArgs st) (defBody st) (defScope st) (.ref T) kV doc pm an cdv ct) ds := ⟨⟨oc, od, T, kV, doc, pm, an, cdv, ct, osl, oT, n, rfl, l, c, hT, hd⟩, k⟩
end
end L2

/-! a dict of the text's own (never changed): d.get(k, x) -/
namespace L2
open PySem PySem.Spec PyProof.Rows
structure KDict (P : Program) (w : World) (K : Fg) (a : Addr) (kvs : List (Key × V)) : Prop where
  at_ : ∃ vs, KV kvs vs ∧ ∀ h : Heap, K.In h → h.DictOf (mixKind P w) a vs
  ns : (a == sysModules) = false
def tKGet2 (kvs : List (Key × V)) (ty tx : TE) : TE := fun σ H Q => ty σ H fun y H2 => tx σ H2 fun z H3 => ∃ k, y = kV k ∧ Q ((valV kvs k).getD z) H3
theorem pe_kget2 {X : Cx} {a : Addr} {kvs : List (Key × V)} {g : Str} {p apos cpos : Pos} {e f : Expr} {ty tx : TE} (D : KDict X.prog X.w X.K a kvs) (hg : Gl X g) (hm : X.mg g = some (.ref a)) (he : PE X e ty) (hf : PE X f tx) (m : M2 X (.Name g p) "get" apos e f cpos)
    (hd : (g == ("__debug__" : Str)) = false := by decide) : PE X (.Call (.Attribute (.Name g p) "get" apos) [e, f] [] cpos) (tKGet2 kvs ty tx) := by
  intro pins s σ H Q I h
  obtain ⟨vs, rel, at_⟩ := D.at_
  refine wpAny_Call_method m.base m.few m.line PySem.F.plainAttrs_dict PySem.F.slot_dict_get PySem.F.type_dict_get (ld_glob I hg hm ?_ hd)
  have dd := at_ _ I.kIn
  refine ⟨dd.typeIs, fun b q => ?_, ?_⟩
  · cases q
    obtain ⟨ob, _, _, h1, h2, _⟩ := dd
    exact ⟨ob, h1, h2.2.1⟩
  · rw [m.trees]
    refine Calls.callWith_builtin rfl (Calls.evalArgs_plain (Calls.spliced_cons (thn (he pins s σ H _ I h) fun iv s2 ⟨y, H2, I2, ry, q2⟩ =>
      Calls.spliced_cons (thn (hf pins s2 σ H2 _ I2 q2) fun fv s3 ⟨z, H3, I3, rz, k, ey, q3⟩ => Calls.spliced_nil ?_))))
    subst ey
    have d3 := at_ _ I3.kIn
    refine call_meetsIn PySem.F.slot_dict_get d3.typeIs PySem.F.entry_dict_get (PySem.F.args_dict_get_3 _ _ _) (meets_dict_get_default (mixKind X.prog X.w) a (kV_is ry) D.ns fv) ⟨_, d3.mapOf, ?_⟩
    exact ⟨_, H3, I3.tok _, (rel.val k).getD rz, q3⟩
/-- a dict of two texts and ints, as the top has written it -/
theorem kdict2 {P : Program} {w : World} {K : Fg} {a : Addr} {ep : Nat} {h1 h2 : Int} {x1 x2 : Str} {t1 t2 u1 u2 : Tok} {i1 i2 : Int} (lk : K.lookup a = some ⟨.type "dict", none, .dict #[⟨h1, .str x1 t1, .int i1 u1⟩, ⟨h2, .str x2 t2, .int i2 u2⟩] ep, #[]⟩)
    (e1 : h1 = hashStr w x1) (e2 : h2 = hashStr w x2) (ne : x1 ≠ x2) (ns : (a == sysModules) = false) : KDict P w K a [(Sum.inr x1, .int i1), (Sum.inr x2, .int i2)] := by
  refine ⟨⟨[(Sum.inr x1, .int i1 u1), (Sum.inr x2, .int i2 u2)], .cons ⟨rfl, _, rfl⟩ (.cons ⟨rfl, _, rfl⟩ .nil), fun h KX => ?_⟩, ns⟩
  refine ⟨_, _, ep, KX _ _ lk, ⟨rfl, rfl, rfl⟩, rfl, fun e he => ?_, .cons (keyIs_str x1 t1) rfl (.cons (keyIs_str x2 t2) rfl .nil), ?_⟩
  · have he : e = ⟨h1, .str x1 t1, .int i1 u1⟩ ∨ e = ⟨h2, .str x2 t2, .int i2 u2⟩ := by simpa using he
    rcases he with rfl | rfl
    · exact ⟨Sum.inr x1, keyIs_str x1 t1, e1⟩
    · exact ⟨Sum.inr x2, keyIs_str x2 t2, e2⟩
  · show [(Sum.inr x1 : Key), Sum.inr x2].Nodup
    simp [ne]
end L2

/-! MORE RULES over the layer: zip(xs, ys), both tracked lists -/
namespace L2
open PySem PySem.Spec PyProof.Rows

section
variable {X : Cx} {pins : Pn} {σ : St} {H : Hp} {s : Shared}
/-- some records of ours have turned -/
theorem Inv.turnedL {fp : List Addr} {h' : Heap} {t' : Nat} (I : Inv X pins σ H s) (hf : ∀ b ∈ fp, FpOk X pins H b)
    (k : ∀ b ob, b ∉ fp → s.heap.get? b = some ob → h'.get? b = some ob) : Inv X pins σ H { s with heap := h', toks := t' } := by
  have nit : ∀ b u, H b = some u → b ∉ fp := fun b u e z => by rw [(hf b z).1] at e; cases e
  have nL : X.env.locals ∉ fp := fun z => (hf _ z).2.1 rfl
  refine I.step (g' := s.gens) (d' := s.drawn) (ch := fp) (fun b hb => ?_) (fun b o _ _ hc e _ => k b o hc e) (fun b o _ _ hc e _ => ⟨o.slots, k b o hc e⟩) (fun _ _ _ _ n => n)
    (fun b o hc e => ⟨o, k b o hc e⟩) (fun _ _ e => e) (fun _ _ _ e => e) (fun b ps e => ⟨#[], by rw [e]; simp⟩) (fun m hm => ?_) (fun b u e => ?_) I.bare
  · obtain ⟨_, f1, _, f3, f4, f5⟩ := hf b hb
    exact ⟨f3, f1, f4, f5⟩
  · obtain ⟨o, es, ep, ho, r⟩ := hm
    exact ⟨o, es, ep, k _ o nL ho, r⟩
  · refine (I.hok b u e).stay (fun c v hc q => k c v ?_ q) (fun _ q => q) fun _ _ q => q
    rcases hc with z | z
    · rw [z]; exact nit b u e
    · exact nit _ _ z
/-- some records of ours have turned, a new object lies behind the heap -/
theorem Inv.turnedLN {fp : List Addr} {h' : Heap} {t' : Nat} {o : HO} (I : Inv X pins σ H s) (hf : ∀ b ∈ fp, FpOk X pins H b)
    (k : ∀ b ob, b ∉ fp → s.heap.get? b = some ob → h'.get? b = some ob) (new : ObjOk X.prog X.w (upd H s.heap.objs.size o) h' s.heap.objs.size o) :
    Inv X pins σ (upd H s.heap.objs.size o) { s with heap := h', toks := t' } := by
  have nit : ∀ b u, H b = some u → b ∉ fp := fun b u e z => by rw [(hf b z).1] at e; cases e
  have nL : X.env.locals ∉ fp := fun z => (hf _ z).2.1 rfl
  have ne : ∀ b ob, s.heap.get? b = some ob → b ≠ s.heap.objs.size := fun b ob q => Nat.ne_of_lt (Heap.lt_size q)
  have hn : H s.heap.objs.size = none := I.hok.fresh (Nat.le_refl _)
  refine I.step (g' := s.gens) (d' := s.drawn) (ch := fp) (fun b hb => ?_) (fun b ob _ _ hc q _ => k b ob hc q) (fun b ob _ _ hc q _ => ⟨ob.slots, k b ob hc q⟩)
    (fun b ob _ q n => by rw [upd_ne (ne b ob q)]; exact n) (fun b ob hc q => ⟨ob, k b ob hc q⟩) (fun b xs q => by rw [upd_ne (ne_of_none q hn)]; exact q)
    (fun b ob u q => by rw [upd_ne (ne_of_none q hn)]; exact q) (fun b ps q => ⟨#[], by rw [upd_ne (ne_of_none q hn), q]; simp⟩) (fun m hm => ?_) (fun b u q => ?_) I.bare
  · obtain ⟨_, f1, _, f3, f4, f5⟩ := hf b hb
    exact ⟨f3, f1, f4, f5⟩
  · obtain ⟨ob, es, ep, ho, r⟩ := hm
    exact ⟨ob, es, ep, k _ ob nL ho, r⟩
  · by_cases hb : b = s.heap.objs.size
    · subst hb; rw [upd_same] at q; cases q; exact new
    · rw [upd_ne hb] at q
      refine (I.hok b u q).stay (fun c v hc z => k _ v ?_ z) (fun c z => by rw [upd_ne (ne_of_none z hn)]; exact z) fun c xs z => by rw [upd_ne (ne_of_none z hn)]; exact z
      rcases hc with y | y
      · subst y; exact nit _ _ q
      · exact nit _ _ y
end

theorem pek_fld {X : Cx} {K' : Fg} {e : Expr} {f : Str} {pos : Pos} {ta : TE} (h : X.K = K') (he : PE X e ta) (hb : attributeBase e f X.env (eval e X.env) = eval e X.env) : PE X (.Attribute e f pos) (tFld K' ta f) := h ▸ pe_fld he hb
def Itz (a b : Addr) : It :=
  ⟨fun i H => ∃ xs ys x y, H a = some (.lst xs) ∧ H b = some (.lst ys) ∧ xs[i]? = some x ∧ ys[i]? = some y,
   fun i H v H' => ∃ p x y, H p = none ∧ v = .ref p ∧ H' = upd H p (.tup [x, y]) ∧ (∀ xs, H a = some (.lst xs) → xs[i]? = some x) ∧ ∀ ys, H b = some (.lst ys) → ys[i]? = some y,
   fun i H => ∃ xs ys, H a = some (.lst xs) ∧ H b = some (.lst ys) ∧ (xs.length ≤ i ∨ ys.length ≤ i)⟩
theorem turn_zip {P : Program} {w : World} {K : Fg} {elts : List Expr} {x1} {pos : Pos} (l1 l2 z TI TO i1 i2 : Addr) (D : ZipApart z TI TO i1 i2 l1 l2) :
    Turn P w K (.Tuple elts x1 pos) (Itz l1 l2) [z, TI, TO, i1, i2] z (fun i h => IsZip h z TI TO .none ∧ IsPair h TI (.ref i1) (.ref i2) ∧ (∃ a b, IsPair h TO a b) ∧ h.IsListIter i1 l1 i ∧ h.IsListIter i2 l2 i) where
  mem := by simp
  obj := fun i h st b hb => by
    obtain ⟨hz, hTI, ⟨a, b', hTO⟩, ⟨o1, ho1, hc1, hd1⟩, ⟨o2, ho2, hc2, hd2⟩⟩ := st
    simp only [List.mem_cons, List.not_mem_nil, or_false] at hb
    rcases hb with rfl | rfl | rfl | rfl | rfl
    · exact ⟨_, hz, fun v z => by cases z⟩
    · exact ⟨_, hTI, fun v z => by cases z⟩
    · exact ⟨_, hTO, fun v z => by cases z⟩
    · exact ⟨o1, ho1, fun v z => by rw [hd1] at z; cases z⟩
    · exact ⟨o2, ho2, fun v z => by rw [hd2] at z; cases z⟩
  keep := fun i h h' ⟨hz, hTI, ⟨a, b, hTO⟩, h1, h2⟩ k => ⟨k z (by simp) _ hz, k TI (by simp) _ hTI, ⟨a, b, k TO (by simp) _ hTO⟩, h1.at fun o q => k i1 (by simp) o q, h2.at fun o q => k i2 (by simp) o q⟩
  item := by
    intro X hP hw hK hc i pins s σ H E I hf st hg
    subst hP hw hK
    obtain ⟨hz, hTI, ⟨a, b, hTO⟩, h1, h2⟩ := st
    obtain ⟨xs, ys, x, y, hq, hq2, hx, hy⟩ := hg
    obtain ⟨its, rv, p, hsz⟩ := I.list (SqL.of hq)
    obtain ⟨its2, rv2, p2, hsz2⟩ := I.list (SqL.of hq2)
    obtain ⟨u, hu, ru⟩ := rv.get hx
    obtain ⟨u2, hu2, ru2⟩ := rv2.get hy
    refine wpAny_pyNext_zip_item D hz hTI hTO h1 h2 p.isList p2.isList (x := u) (y := u2) (by simpa using hu) (by simpa using hu2) fun h3 hz3 hTO3 h13 h23 ht3 hs3 hk3 => ⟨_, rfl, ?_⟩
    refine wpAny_letOwnedTupleGo_zip hz3 fun h4 hz4 hs4 => ?_
    have hs4 : Heap.SameBut z h3 h4 := hs4
    have hzH : z < s.heap.objs.size := Heap.lt_size hz
    have hn : H s.heap.objs.size = none := I.hok.fresh (Nat.le_refl _)
    have ht4 : h4.get? s.heap.objs.size = some { cls := .type "tuple", data := .seq #[u, u2] } := (hs4.2 _ (Nat.ne_of_gt hzH)).trans ht3
    have kk : ∀ b ob, b ∉ [z, TI, TO, i1, i2] → s.heap.get? b = some ob → h4.get? b = some ob := fun b ob hb e => by
      simp only [List.mem_cons, List.not_mem_nil, or_false, not_or] at hb
      exact (hs4.2 b hb.1).trans (hk3 b ob hb.1 hb.2.2.1 hb.2.2.2.1 hb.2.2.2.2 e)
    have I2 : Inv X pins σ (upd H s.heap.objs.size (.tup [x, y])) { s with heap := h4, toks := s.toks } := by
      refine I.turnedLN hf kk ?_
      exact ⟨by rw [sizeLine_eq]; simp, [u, u2], .cons ru (.cons ru2 .nil), ⟨_, ht4, rfl, 0, rfl⟩⟩
    refine ⟨.ref s.heap.objs.size, _, I2, rfl, ⟨_, x, y, hn, rfl, rfl, fun zs hy' => ?_, fun zs hy' => ?_⟩, ⟨hz4, ?_, ⟨u, u2, ?_⟩, ?_, ?_⟩, fun b hb => ?_⟩
    · rw [hq] at hy'; cases hy'; exact hx
    · rw [hq2] at hy'; cases hy'; exact hy
    · exact (hs4.2 _ D.TIz).trans (hk3 _ _ D.TIz D.TITO D.TIi1 D.TIi2 hTI)
    · exact (hs4.2 _ D.TOz).trans hTO3
    · exact h13.extBut hs4.extBut D.i1z
    · exact h23.extBut hs4.extBut D.i2z
    · rw [upd_ne]
      · exact (hf b hb).1
      · obtain ⟨o1, ho1, _⟩ := h1
        obtain ⟨o2, ho2, _⟩ := h2
        simp only [List.mem_cons, List.not_mem_nil, or_false] at hb
        rcases hb with rfl | rfl | rfl | rfl | rfl
        · exact Nat.ne_of_lt hzH
        · exact Nat.ne_of_lt (Heap.lt_size hTI)
        · exact Nat.ne_of_lt (Heap.lt_size hTO)
        · exact Nat.ne_of_lt (Heap.lt_size ho1)
        · exact Nat.ne_of_lt (Heap.lt_size ho2)
  done := by
    intro X hP hw hK hc i pins s σ H E I hf st hg
    subst hP hw hK
    obtain ⟨hz, hTI, ⟨a, b, hTO⟩, h1, h2⟩ := st
    obtain ⟨xs, ys, hq, hq2, hx⟩ := hg
    obtain ⟨its, rv, p, hsz⟩ := I.list (SqL.of hq)
    obtain ⟨its2, rv2, p2, hsz2⟩ := I.list (SqL.of hq2)
    have hl := rv.length
    have hl2 := rv2.length
    refine wpAny_pyNext_zip_end (I.ok.hd hc) D hz hTI hTO h1 h2 p.isList p2.isList ?_ fun h' eb => ⟨rfl, I.turnedL (t' := s.toks) hf fun b ob hb e => ?_⟩
    · rcases hx with hx | hx
      · left; simp; omega
      · right; simp; omega
    · simp only [List.mem_cons, List.not_mem_nil, or_false, not_or] at hb
      exact eb b ob hb.1 hb.2.2.1 hb.2.2.2.1 hb.2.2.2.2 e
  self := fun _ _ _ _ _ ⟨hz, _⟩ h => wpAny_pyIter_zip hz h

section
variable {X : Cx}
def iZip (ta : TA) : TI := fun σ H R => ta σ H fun vs H1 => ∃ a b xs ys, vs = [.ref a, .ref b] ∧ H1 a = some (.lst xs) ∧ H1 b = some (.lst ys) ∧ R (Itz a b) H1
theorem pi_zip {elts : List Expr} {x1} {tpos : Pos} {l m : Expr} {ta : TA} {p pos : Pos} (hg : Gl X "zip") (hm : X.mg "zip" = none) (ha : PA X [l, m] ta)
    (hs : starEach [l, m] X.env = [(false, eval l X.env), (false, eval m X.env)] := by rfl) (hs2 : starEach [m] X.env = [(false, eval m X.env)] := by rfl) :
    PI X (.Tuple elts x1 tpos) (.Call (.Name "zip" p) [l, m] [] pos) (iZip ta) := by
  intro pins s σ H R I h
  refine Call_ (ld_blt I hg hm boot_zip (PyProof.Rows.callWith_type1 (thn (ha pos pins s σ H _ I h) fun us s1 ⟨vs, H1, I1, r1, q1⟩ => ?_) (by rw [hs, hs2]) (by rw [hs2]; rfl)))
  obtain ⟨a, b, xs, ys, e, hq, hq2, q⟩ := q1
  subst e
  obtain ⟨u, u2, rfl, ru, ru2⟩ := vals2 r1
  cases ru
  cases ru2
  obtain ⟨its, rv, p1, hsz⟩ := I1.list (SqL.of hq)
  obtain ⟨its2, rv2, p2, hsz2⟩ := I1.list (SqL.of hq2)
  obtain ⟨o1, ho1, _⟩ := p1.isList
  obtain ⟨o2, ho2, _⟩ := p2.isList
  refine call_zip_2 p1.isList p2.isList fun h' hz hTI hTO hi1 hi2 hsz hk => wpAny_pyIter_zip hz ?_
  have I2 : Inv X pins σ H1 { s1 with heap := h' } := I1.kept (t' := s1.toks) hk
  refine ⟨_, [s1.heap.objs.size + 4, s1.heap.objs.size + 2, s1.heap.objs.size + 3, s1.heap.objs.size, s1.heap.objs.size + 1], _, _, H1, rfl, I2,
    turn_zip a b _ _ _ _ _ (zipApart_new (Heap.lt_size ho1) (Heap.lt_size ho2)), ⟨hz, hTI, ⟨_, _, hTO⟩, hi1, hi2⟩, fun c hc => ?_, q⟩
  have hc : s1.heap.objs.size ≤ c := by
    simp only [List.mem_cons, List.not_mem_nil, or_false] at hc
    rcases hc with rfl | rfl | rfl | rfl | rfl <;> omega
  exact I1.fpOk hc (I1.hok.fresh hc)
end
theorem for_zip {a b : Addr} {xs ys : List V} {g : TG} {tb : TS} {D : Ends} {σ : St} {H : Hp} (Pv : Nat → St → Hp → Prop) (he : xs.length = ys.length) (h0 : Pv 0 σ H) (hl : ∀ i σ H, i ≤ xs.length → Pv i σ H → H a = some (.lst xs) ∧ H b = some (.lst ys))
    (hs : ∀ i x y σ H p, xs[i]? = some x → ys[i]? = some y → Pv i σ H → H p = none → g (.ref p) σ (upd H p (.tup [x, y])) fun σ2 H2 => tb { D with nx := Pv (i + 1), ct := Pv (i + 1), bk := D.nx } σ2 H2) (hd : ∀ σ H, Pv xs.length σ H → D.nx σ H) :
    ∃ W : Nat → Nat → St → Hp → Prop, (∃ m, W 0 m σ H) ∧ ∀ i m σ H, W i m σ H →
      ((Itz a b).stop i H ∧ D.nx σ H) ∨ ((Itz a b).go i H ∧ ∃ N : St → Hp → Prop, (∀ σ' H', N σ' H' → ∃ m', m' < m ∧ W (i + 1) m' σ' H') ∧ ∀ x H', (Itz a b).yld i H x H' → g x σ H' fun σ2 H2 => tb { D with nx := N, ct := N, bk := D.nx } σ2 H2) := by
  refine ⟨fun i m σ H => m = xs.length - i ∧ i ≤ xs.length ∧ Pv i σ H, ⟨xs.length, by simp, Nat.zero_le _, h0⟩, ?_⟩
  rintro i m σ H ⟨rfl, hi, p⟩
  obtain ⟨q, q2⟩ := hl i σ H hi p
  by_cases hlt : i < xs.length
  · have hlt2 : i < ys.length := by omega
    refine .inr ⟨⟨xs, ys, xs[i], ys[i], q, q2, by simp [hlt], by simp [hlt2]⟩, Pv (i + 1), fun σ' H' p' => ⟨xs.length - (i + 1), by omega, rfl, hlt, p'⟩, fun v H' y => ?_⟩
    obtain ⟨pp, x, y, hp, e1, e2, hx, hy⟩ := y
    subst e1 e2
    exact hs i x y σ H pp (hx xs q) (hy ys q2) p hp
  · have e : i = xs.length := by omega
    subst e
    exact .inl ⟨⟨xs, ys, q, q2, .inl (Nat.le_refl _)⟩, hd σ H p⟩
end L2

/-! THE DATA of the program: things, boxes, a house as it lies in the heap -/
namespace LW
open PySem L2

/-! ### lists and dicts by place -/
section
variable {κ : Type} [DecidableEq κ]
theorem valV_at {kvs : List (κ × V)} (nd : (kvs.map (·.1)).Nodup) {i : Nat} {k : κ} {v : V} (h : kvs[i]? = some (k, v)) : valV kvs k = some v := by
  induction kvs generalizing i with
  | nil => simp at h
  | cons p r ih =>
    have nd : (p.1 :: r.map (·.1)).Nodup := nd
    obtain ⟨n1, n2⟩ := List.nodup_cons.mp nd
    cases i with
    | zero =>
      have h : p = (k, v) := by simpa using h
      subst h
      exact valV_pos rfl
    | succ i =>
      have h : r[i]? = some (k, v) := by simpa using h
      have hk : k ∈ r.map (·.1) := List.mem_map.mpr ⟨(k, v), List.mem_of_getElem? h, rfl⟩
      rw [valV_neg (fun e => n1 (by rw [e]; exact hk))]
      exact ih n2 h
theorem valV_out {kvs : List (κ × V)} {k : κ} (h : ¬ k ∈ kvs.map (·.1)) : valV kvs k = none := by
  cases e : valV kvs k with
  | none => rfl
  | some v => exact absurd (valV_in e) h
end
section
variable {α β : Type} {F G : α → β → Prop}
theorem pr_get : ∀ {xs : List α} {ys : List β} {i : Nat} {x : α}, Paired F xs ys → xs[i]? = some x → ∃ y, ys[i]? = some y ∧ F x y
  | _, _, _, _, .nil, h => by simp at h
  | _, _, 0, _, .cons r _, h => by simp at h; subst h; exact ⟨_, rfl, r⟩
  | _, _, i + 1, x, .cons _ t, h => by
    obtain ⟨y, h1, h2⟩ := pr_get (i := i) (x := x) t (by simpa using h)
    exact ⟨y, by simpa using h1, h2⟩
theorem pr_getR : ∀ {xs : List α} {ys : List β} {i : Nat} {y : β}, Paired F xs ys → ys[i]? = some y → ∃ x, xs[i]? = some x ∧ F x y
  | _, _, _, _, .nil, h => by simp at h
  | _, _, 0, _, .cons r _, h => by simp at h; subst h; exact ⟨_, rfl, r⟩
  | _, _, i + 1, x, .cons _ t, h => by
    obtain ⟨y, h1, h2⟩ := pr_getR (i := i) (y := x) t (by simpa using h)
    exact ⟨y, by simpa using h1, h2⟩
theorem pr_set {x : α} {y : β} (r : F x y) : ∀ {xs : List α} {ys : List β} (i : Nat), Paired F xs ys → Paired F (xs.set i x) (ys.set i y)
  | _, _, _, .nil => .nil
  | _, _, 0, .cons _ t => .cons r t
  | _, _, i + 1, .cons q t => .cons q (pr_set r i t)
theorem pr_app : ∀ {xs xs' : List α} {ys ys' : List β}, Paired F xs ys → Paired F xs' ys' → Paired F (xs ++ xs') (ys ++ ys')
  | _, _, _, _, .nil, s => s
  | _, _, _, _, .cons r t, s => .cons r (pr_app t s)
theorem pr_imp (f : ∀ a b, a ∈ (xs : List α) → b ∈ (ys : List β) → F a b → G a b) (h : Paired F xs ys) : Paired G xs ys := by
  induction h with
  | nil => exact .nil
  | cons r t ih => exact .cons (f _ _ List.mem_cons_self List.mem_cons_self r) (ih fun a b ha hb => f a b (List.mem_cons_of_mem _ ha) (List.mem_cons_of_mem _ hb))
theorem pr_rep {x : α} {y : β} (r : F x y) : ∀ n : Nat, Paired F (List.replicate n x) (List.replicate n y)
  | 0 => .nil
  | n + 1 => .cons r (pr_rep r n)
theorem pr_len {xs : List α} {ys : List β} (h : Paired F xs ys) : xs.length = ys.length := Paired.length h
end

/-! ### things -/
inductive T where
  | non | num (i : Int) | box (n : Int)
  deriving DecidableEq
def isT (H : Hp) : T → V → Prop
  | .non, v => v = .non
  | .num i, v => v = .int i
  | .box n, v => ∃ a, v = .ref a ∧ H a = some (.tup [.str "box", .int n])
/-- the tuples stay -/
def Tups (H H' : Hp) : Prop := ∀ b xs, H b = some (.tup xs) → H' b = some (.tup xs)
theorem Tups.trans {H H1 H2 : Hp} (a : Tups H H1) (b : Tups H1 H2) : Tups H H2 := fun c xs h => b c xs (a c xs h)
theorem Tups.of_same {H H' : Hp} (s : Same H H') : Tups H H' := fun b _ h => s b _ h
theorem Tups.upd {H : Hp} {a : Addr} {o o' : HO} (h : H a = some o') (n : ∀ xs, o' ≠ .tup xs) : Tups H (upd H a o) := fun b xs q => by
  rw [upd_ne]
  · exact q
  · rintro rfl
    rw [h] at q
    cases q
    exact n xs rfl
theorem Tups.new {H : Hp} {a : Addr} {o : HO} (h : H a = none) : Tups H (L2.upd H a o) := fun b xs q => by rw [upd_ne (ne_of_none q h)]; exact q
theorem isT.keep {H H' : Hp} {t : T} {v : V} (k : Tups H H') (h : isT H t v) : isT H' t v := by
  cases t with
  | non => exact h
  | num i => exact h
  | box n => obtain ⟨a, e, q⟩ := h; exact ⟨a, e, k _ _ q⟩
abbrev Ths (H : Hp) : List T → List V → Prop := Paired (isT H)
theorem Ths.keep {H H' : Hp} {ts : List T} {vs : List V} (k : Tups H H') (h : Ths H ts vs) : Ths H' ts vs := pr_imp (fun _ _ _ _ z => z.keep k) h
/-- a list of things at a -/
def ThL (H : Hp) (ts : List T) (a : Addr) : Prop := ∃ vs, H a = some (.lst vs) ∧ Ths H ts vs
def IntL (H : Hp) (ns : List Int) (a : Addr) : Prop := H a = some (.lst (ns.map V.int))
theorem ThL.keep {H H' : Hp} {ts : List T} {a : Addr} (k : Tups H H') (e : H' a = H a) (h : ThL H ts a) : ThL H' ts a := let ⟨vs, h1, h2⟩ := h; ⟨vs, e.trans h1, h2.keep k⟩

/-! ### the house -/
structure Box where
  name : Int
  kind : Str
  row : List T
structure HS where
  room : Int
  slots : List T
  last : Int
  boxes : List Box
  queues : List (List Int)
  told : List (List Int)
/-- where its parts lie: the slots' list, the two dicts, the lists of fields, the guards' lists -/
structure HA where
  dx : Addr
  sl : Addr
  kd : Addr
  fd : Addr
  fl : List Addr
  qs : Addr
  ql : List Addr
  td : Addr
  tl : List Addr
def HA.lists (A : HA) : List Addr := A.sl :: A.qs :: A.td :: (A.fl ++ (A.ql ++ A.tl))
def HA.foot (A : HA) (p : Addr) : List Addr := p :: A.kd :: A.fd :: A.lists
def hFlds (A : HA) (S : HS) : List (Str × V) :=
  [("room", .int S.room), ("slots", .ref A.sl), ("last_name", .int S.last), ("kinds", .ref A.kd), ("fields", .ref A.fd), ("queues", .ref A.qs), ("told", .ref A.td)]
def kindsD (bs : List Box) : List (Key × V) := bs.map fun b => ((Sum.inl b.name : Key), V.str b.kind)
def fieldsD (bs : List Box) (fl : List Addr) : List (Key × V) := (bs.zip fl).map fun q => ((Sum.inl q.1.name : Key), V.ref q.2)
structure HouseAt (C : Addr) (H : Hp) (p : Addr) (A : HA) (S : HS) : Prop where
  ob : H p = some (.ins C A.dx (hFlds A S))
  sl : ThL H S.slots A.sl
  kd : H A.kd = some (.dK (kindsD S.boxes))
  fd : H A.fd = some (.dK (fieldsD S.boxes A.fl))
  fl : Paired (fun b a => ThL H b.row a) S.boxes A.fl
  qs : H A.qs = some (.lst (A.ql.map V.ref))
  ql : Paired (IntL H) S.queues A.ql
  td : H A.td = some (.lst (A.tl.map V.ref))
  tl : Paired (IntL H) S.told A.tl
  nd : A.lists.Nodup
  kf : A.kd ≠ A.fd
  asc : (S.boxes.map (·.name)).Pairwise (· < ·)
  top : ∀ b ∈ S.boxes, b.name ≤ S.last
theorem HouseAt.nm {C : Addr} {H : Hp} {p : Addr} {A : HA} {S : HS} (h : HouseAt C H p A S) : (S.boxes.map (·.name)).Nodup := h.asc.imp fun z => Int.ne_of_lt z
/-- all but F is as it was -/
def Frame (F : List Addr) (H H' : Hp) : Prop := ∀ b o, H b = some o → b ∉ F → H' b = some o
/-- what grows: each place of F' is one of F, or was free -/
def Grown (F F' : List Addr) (H : Hp) : Prop := ∀ b ∈ F', b ∈ F ∨ H b = none
section
variable {C : Addr} {H H' : Hp} {p : Addr} {A : HA} {S : HS}
theorem HouseAt.keep (h : HouseAt C H p A S) (k : ∀ b ∈ A.foot p, H' b = H b) (t : Tups H H') : HouseAt C H' p A S where
  ob := (k p (by simp [HA.foot])).trans h.ob
  sl := h.sl.keep t (k _ (by simp [HA.foot, HA.lists]))
  kd := (k _ (by simp [HA.foot])).trans h.kd
  fd := (k _ (by simp [HA.foot])).trans h.fd
  fl := pr_imp (fun b a _ ha z => z.keep t (k _ (by simp [HA.foot, HA.lists, ha]))) h.fl
  qs := (k _ (by simp [HA.foot, HA.lists])).trans h.qs
  ql := pr_imp (fun b a _ ha z => (k _ (by simp [HA.foot, HA.lists, ha])).trans z) h.ql
  td := (k _ (by simp [HA.foot, HA.lists])).trans h.td
  tl := pr_imp (fun b a _ ha z => (k _ (by simp [HA.foot, HA.lists, ha])).trans z) h.tl
  nd := h.nd
  kf := h.kf
  asc := h.asc
  top := h.top
/-- each place of its foot is taken -/
theorem HouseAt.there (h : HouseAt C H p A S) : ∀ b ∈ A.foot p, ∃ o, H b = some o := fun b hb => by
  have hb : b = p ∨ b = A.kd ∨ b = A.fd ∨ b = A.sl ∨ b = A.qs ∨ b = A.td ∨ b ∈ A.fl ∨ b ∈ A.ql ∨ b ∈ A.tl := by simpa [HA.foot, HA.lists] using hb
  rcases hb with e | e | e | e | e | e | e | e | e
  · exact ⟨_, e ▸ h.ob⟩
  · exact ⟨_, e ▸ h.kd⟩
  · exact ⟨_, e ▸ h.fd⟩
  · obtain ⟨vs, q, _⟩ := h.sl; exact ⟨_, e ▸ q⟩
  · exact ⟨_, e ▸ h.qs⟩
  · exact ⟨_, e ▸ h.td⟩
  · obtain ⟨i, hi⟩ := List.getElem?_of_mem e
    obtain ⟨x, _, vs, q, _⟩ := pr_getR h.fl hi
    exact ⟨_, q⟩
  · obtain ⟨i, hi⟩ := List.getElem?_of_mem e
    obtain ⟨x, _, q⟩ := pr_getR h.ql hi
    exact ⟨_, q⟩
  · obtain ⟨i, hi⟩ := List.getElem?_of_mem e
    obtain ⟨x, _, q⟩ := pr_getR h.tl hi
    exact ⟨_, q⟩
theorem HouseAt.same (h : HouseAt C H p A S) (s : Same H H') : HouseAt C H' p A S := h.keep (fun b hb => by
  obtain ⟨o, q⟩ := h.there b hb
  rw [q]; exact s _ _ q) (Tups.of_same s)
theorem HouseAt.new (h : HouseAt C H p A S) {a : Addr} {o : HO} (n : H a = none) : HouseAt C (upd H a o) p A S := h.same fun b u q => by rw [upd_ne (ne_of_none q n)]; exact q
/-- every list of it is a list -/
theorem HouseAt.isL (h : HouseAt C H p A S) : ∀ b ∈ A.lists, ∃ vs, H b = some (.lst vs) := fun b hb => by
  have hb : b = A.sl ∨ b = A.qs ∨ b = A.td ∨ b ∈ A.fl ∨ b ∈ A.ql ∨ b ∈ A.tl := by simpa [HA.lists] using hb
  rcases hb with e | e | e | e | e | e
  · obtain ⟨vs, q, _⟩ := h.sl; exact ⟨_, e ▸ q⟩
  · exact ⟨_, e ▸ h.qs⟩
  · exact ⟨_, e ▸ h.td⟩
  · obtain ⟨i, hi⟩ := List.getElem?_of_mem e
    obtain ⟨x, _, vs, q, _⟩ := pr_getR h.fl hi
    exact ⟨_, q⟩
  · obtain ⟨i, hi⟩ := List.getElem?_of_mem e
    obtain ⟨x, _, q⟩ := pr_getR h.ql hi
    exact ⟨_, q⟩
  · obtain ⟨i, hi⟩ := List.getElem?_of_mem e
    obtain ⟨x, _, q⟩ := pr_getR h.tl hi
    exact ⟨_, q⟩
end
end LW

/-! OWNERSHIP: what a law holds at a moment, as a list of roots, each with the places that are its own -/
namespace LW
open PySem L2

/-- what never changes stays -/
structure Imm (H H' : Hp) : Prop where
  t : Tups H H'
  f : ∀ b o u, H b = some (.frz o u) → H' b = some (.frz o u)
theorem Imm.same {H H' : Hp} (s : Same H H') : Imm H H' := ⟨Tups.of_same s, fun b _ _ h => s b _ h⟩
theorem Same.new {H : Hp} {a : Addr} {o : HO} (h : H a = none) : Same H (upd H a o) := fun b u q => by rw [upd_ne (ne_of_none q h)]; exact q
theorem Imm.new {H : Hp} {a : Addr} {o : HO} (h : H a = none) : Imm H (upd H a o) := Imm.same (Same.new h)
/-- a root: what it says of the heap, by the places that are its own -/
structure Rt where
  on : Hp → List Addr → Prop
  keep : ∀ {H H' : Hp} {F : List Addr}, on H F → (∀ b ∈ F, H' b = H b) → Imm H H' → on H' F
  there : ∀ {H : Hp} {F : List Addr}, on H F → ∀ b ∈ F, ∃ o, H b = some o

def Own (H : Hp) (W : List Rt) : Prop := ∃ Fs : List (List Addr), Paired (fun r F => r.on H F) W Fs ∧ Fs.flatten.Nodup

theorem flat_mem {α : Type} {Fs : List (List α)} {i : Nat} {F : List α} (h : Fs[i]? = some F) {b : α} (hb : b ∈ F) : b ∈ Fs.flatten := List.mem_flatten.mpr ⟨F, List.mem_of_getElem? h, hb⟩
/-- the rest of a list of lists -/
def others {α : Type} (Fs : List (List α)) (i : Nat) : List α := (Fs.eraseIdx i).flatten
theorem nd_split {α : Type} : ∀ {Fs : List (List α)} {i : Nat} {F : List α}, Fs[i]? = some F → Fs.flatten.Nodup → F.Nodup ∧ (others Fs i).Nodup ∧ (∀ b ∈ F, b ∉ others Fs i)
  | [], _, _, h, _ => by simp at h
  | F0 :: Fs, 0, F, h, nd => by
    have h : F0 = F := by simpa using h
    subst h
    rw [List.flatten_cons] at nd
    obtain ⟨a, b, c⟩ := List.nodup_append.mp nd
    exact ⟨a, b, fun x hx hy => c x hx x hy rfl⟩
  | F0 :: Fs, i + 1, F, h, nd => by
    have h : Fs[i]? = some F := by simpa using h
    rw [List.flatten_cons] at nd
    obtain ⟨a, b, c⟩ := List.nodup_append.mp nd
    obtain ⟨x1, x2, x3⟩ := nd_split h b
    have sub : ∀ y ∈ others Fs i, y ∈ Fs.flatten := fun y hy => by
      obtain ⟨G, hG, hy⟩ := List.mem_flatten.mp hy
      exact List.mem_flatten.mpr ⟨G, List.mem_of_mem_eraseIdx hG, hy⟩
    refine ⟨x1, ?_, fun y hy hz => ?_⟩
    · show (F0 :: Fs.eraseIdx i).flatten.Nodup
      rw [List.flatten_cons]
      exact List.nodup_append.mpr ⟨a, x2, fun p hp q hq => c p hp q (sub q hq)⟩
    · have hz : y ∈ F0 ++ others Fs i := hz
      rcases List.mem_append.mp hz with z | z
      · exact c y z y (flat_mem h hy) rfl
      · exact x3 y hy z
theorem mem_set_flat {α : Type} : ∀ {Fs : List (List α)} {i : Nat} {F' : List α} {x : α}, x ∈ (Fs.set i F').flatten → x ∈ F' ∨ x ∈ others Fs i
  | [], _, _, _, h => by simp at h
  | G :: Gs, 0, F', x, h => by
    have h : x ∈ F' ++ Gs.flatten := h
    rcases List.mem_append.mp h with z | z
    · exact .inl z
    · exact .inr z
  | G :: Gs, i + 1, F', x, h => by
    have h : x ∈ G ++ (Gs.set i F').flatten := h
    rcases List.mem_append.mp h with z | z
    · exact .inr (show x ∈ G ++ others Gs i from List.mem_append_left _ z)
    · rcases mem_set_flat z with q | q
      · exact .inl q
      · exact .inr (show x ∈ G ++ others Gs i from List.mem_append_right _ q)
theorem nd_join {α : Type} : ∀ {Fs : List (List α)} {i : Nat} {F F' : List α}, Fs[i]? = some F → F'.Nodup → (others Fs i).Nodup → (∀ b ∈ F', b ∉ others Fs i) → (Fs.set i F').flatten.Nodup
  | [], _, _, _, h, _, _, _ => by simp at h
  | F0 :: Fs, 0, F, F', h, a, b, c => by
    show (F' :: Fs).flatten.Nodup
    rw [List.flatten_cons]
    exact List.nodup_append.mpr ⟨a, b, fun x hx y hy e => c x hx (e ▸ hy)⟩
  | F0 :: Fs, i + 1, F, F', h, a, b, c => by
    have h : Fs[i]? = some F := by simpa using h
    have b : (F0 ++ others Fs i).Nodup := b
    obtain ⟨b1, b2, b3⟩ := List.nodup_append.mp b
    have c : ∀ x ∈ F', x ∉ F0 ++ others Fs i := c
    show (F0 :: Fs.set i F').flatten.Nodup
    rw [List.flatten_cons]
    refine List.nodup_append.mpr ⟨b1, nd_join h a b2 (fun x hx z => c x hx (List.mem_append_right _ z)), fun x hx y hy e => ?_⟩
    subst e
    rcases mem_set_flat hy with z | z
    · exact c x z (List.mem_append_left _ hx)
    · exact b3 x hx x z rfl
theorem pr_setX {α β : Type} {F G : α → β → Prop} {x : α} {y : β} : ∀ {xs : List α} {ys : List β} {i : Nat}, Paired F xs ys → G x y → (∀ (j : Nat) a b, j ≠ i → xs[j]? = some a → ys[j]? = some b → F a b → G a b) → Paired G (xs.set i x) (ys.set i y)
  | _, _, _, .nil, _, _ => .nil
  | _, _, 0, .cons _ t, g, f => .cons g (by
      have f' : ∀ (j : Nat) a b, _ → _ → F a b → G a b := fun j a b => f (j + 1) a b (by omega)
      clear f
      induction t with
      | nil => exact .nil
      | cons r s ih => exact .cons (f' 0 _ _ rfl rfl r) (ih fun j a b h1 h2 => f' (j + 1) a b (by simpa using h1) (by simpa using h2)))
  | _, _, i + 1, .cons r t, g, f => .cons (f 0 _ _ (by omega) rfl rfl r) (pr_setX t g fun j a b hj h1 h2 => f (j + 1) a b (by omega) (by simpa using h1) (by simpa using h2))
section
variable {H H' : Hp} {W : List Rt} {i : Nat} {r r' : Rt} {l : Addr} {o : HO}
theorem Own.get (w : Own H W) (h : W[i]? = some r) : ∃ F, r.on H F := by
  obtain ⟨Fs, p, _⟩ := w
  obtain ⟨F, _, q⟩ := pr_get p h
  exact ⟨F, q⟩
/-- one root changes, within its own places and new ones -/
theorem Own.chg (w : Own H W) (h : W[i]? = some r) : ∃ (F G : List Addr), r.on H F ∧ F.Nodup ∧ (∀ b ∈ F, b ∉ G) ∧ (∀ b ∈ G, ∃ o, H b = some o) ∧
    ∀ (H' : Hp) (r' : Rt) (F' : List Addr), r'.on H' F' → F'.Nodup → (∀ b ∈ F', b ∈ F ∨ H b = none) → (∀ b ∈ G, H' b = H b) → Imm H H' → Own H' (W.set i r') := by
  obtain ⟨Fs, p, nd⟩ := w
  obtain ⟨F, hF, q⟩ := pr_get p h
  obtain ⟨n1, n2, n3⟩ := nd_split hF nd
  have th : ∀ b ∈ others Fs i, ∃ o, H b = some o := fun b hb => by
    obtain ⟨G, hG, hb⟩ := List.mem_flatten.mp hb
    obtain ⟨j, hj⟩ := List.getElem?_of_mem (List.mem_of_mem_eraseIdx hG)
    obtain ⟨r2, _, q2⟩ := pr_getR p hj
    exact r2.there q2 b hb
  refine ⟨F, others Fs i, q, n1, n3, th, fun H' r' F' q' nd' sub kp im => ⟨Fs.set i F', pr_setX p q' fun j a b hj h1 h2 z => a.keep z (fun c hc => kp c ?_) im, nd_join hF nd' n2 fun b hb hz => ?_⟩⟩
  · refine List.mem_flatten.mpr ⟨b, ?_, hc⟩
    exact List.mem_iff_getElem?.mpr (by
      by_cases e : j < i
      · exact ⟨j, by rw [List.getElem?_eraseIdx_of_lt e]; exact h2⟩
      · have e : i < j := by omega
        obtain ⟨k, rfl⟩ : ∃ k, j = k + 1 := ⟨j - 1, by omega⟩
        exact ⟨k, by rw [List.getElem?_eraseIdx_of_ge (by omega)]; exact h2⟩)
  · rcases sub b hb with z | z
    · exact n3 b z hz
    · obtain ⟨u, e⟩ := th b hz
      rw [z] at e; cases e
theorem Own.same (w : Own H W) (s : Same H H') : Own H' W := by
  obtain ⟨Fs, p, nd⟩ := w
  exact ⟨Fs, pr_imp (fun r F _ _ z => r.keep z (fun b hb => by
    obtain ⟨o, e⟩ := r.there z b hb
    rw [e]; exact s _ _ e) (Imm.same s)) p, nd⟩
theorem Own.out (w : Own H W) (h : H l = none) : ∀ Fs, Paired (fun r F => r.on H F) W Fs → l ∉ Fs.flatten := fun Fs p z => by
  obtain ⟨F, hF, hb⟩ := List.mem_flatten.mp z
  obtain ⟨j, hj⟩ := List.getElem?_of_mem hF
  obtain ⟨r, _, q⟩ := pr_getR p hj
  obtain ⟨o, e⟩ := r.there q l hb
  rw [h] at e; cases e
/-- a new object -/
theorem Own.new (w : Own H W) (h : H l = none) (n : r.on (upd H l o) [l]) : Own (upd H l o) (r :: W) := by
  have w2 := w
  obtain ⟨Fs, p, nd⟩ := w
  have ho := w2.out h Fs p
  refine ⟨[l] :: Fs, .cons n (pr_imp (fun r F _ hF z => r.keep z (fun b hb => upd_ne fun e => ?_) (Imm.new h)) p), ?_⟩
  · subst e
    exact ho (List.mem_flatten.mpr ⟨F, hF, hb⟩)
  · show (l :: Fs.flatten).Nodup
    exact List.nodup_cons.mpr ⟨ho, nd⟩
theorem Own.imm (w : Own H W) (n : r.on H []) : Own H (r :: W) := by
  obtain ⟨Fs, p, nd⟩ := w
  exact ⟨[] :: Fs, .cons n p, by simpa using nd⟩
theorem Own.nil (H : Hp) : Own H [] := ⟨[], .nil, by simp⟩
end

/-! ### the roots one uses -/
def rHouse (C p : Addr) (S : HS) : Rt where
  on H F := ∃ A, HouseAt C H p A S ∧ F = A.foot p
  keep := by
    rintro H H' F ⟨A, h, rfl⟩ k im
    exact ⟨A, h.keep k im.t, rfl⟩
  there := by
    rintro H F ⟨A, h, rfl⟩ b hb
    exact h.there b hb
def rLst (a : Addr) (vs : List V) : Rt where
  on H F := H a = some (.lst vs) ∧ F = [a]
  keep := by
    rintro H H' F ⟨h, rfl⟩ k im
    exact ⟨(k a (by simp)).trans h, rfl⟩
  there := by
    rintro H F ⟨h, rfl⟩ b hb
    obtain rfl : b = a := by simpa using hb
    exact ⟨_, h⟩
end LW

/-! THE PROGRAM's small defs -/
variable {P : PySem.Program} {w : PySem.World} {K : Fg} {mg : PySem.Str → Option PySem.Value} {base : PySem.Heap} {n : Nat} {fd : PySem.FuncData}
theorem zl {k : Nat} (h : Nat.ble k 99 = true := by rfl) : k ≤ PySem.sizeLine := Nat.le_trans (Nat.le_of_ble_eq_true h) (by decide)
namespace LW
open PySem L2

theorem iteD {c A B : Prop} [Decidable c] (hc : ¬ c) (h : B) : if decide c = true then A else B := by rw [decide_eq_false hc]; exact iteF h
theorem iteY {c A B : Prop} [Decidable c] (hc : c) (h : A) : if decide c = true then A else B := by rw [decide_eq_true hc]; exact iteT h
theorem iteB {b : Bool} {A B : Prop} (e : b = false) (h : B) : if b = true then A else B := by rw [e]; exact iteF h
theorem iteA {b : Bool} {A B : Prop} (e : b = true) (h : A) : if b = true then A else B := by rw [e]; exact iteT h

theorem lk_hit {k : Str} {v : V} {r : List (Str × V)} : List.lookup k ((k, v) :: r) = some v := by simp [List.lookup_cons]
theorem lk_skip {k k' : Str} {v : V} {r : List (Str × V)} (h : (k == k') = false) : List.lookup k ((k', v) :: r) = List.lookup k r := by simp [List.lookup_cons, h]
section
variable {A : HA} {S : HS}
theorem hf_room : (hFlds A S).lookup ("room" : Str) = some (V.int S.room) := lk_hit
theorem hf_slots : (hFlds A S).lookup ("slots" : Str) = some (V.ref A.sl) := (lk_skip (by decide +kernel)).trans lk_hit
theorem hf_last : (hFlds A S).lookup ("last_name" : Str) = some (V.int S.last) := (lk_skip (by decide +kernel)).trans ((lk_skip (by decide +kernel)).trans lk_hit)
theorem hf_kinds : (hFlds A S).lookup ("kinds" : Str) = some (V.ref A.kd) := (lk_skip (by decide +kernel)).trans ((lk_skip (by decide +kernel)).trans ((lk_skip (by decide +kernel)).trans lk_hit))
theorem hf_fields : (hFlds A S).lookup ("fields" : Str) = some (V.ref A.fd) := (lk_skip (by decide +kernel)).trans ((lk_skip (by decide +kernel)).trans ((lk_skip (by decide +kernel)).trans ((lk_skip (by decide +kernel)).trans lk_hit)))
/-- a name that is none of the attributes -/
def notFld (m : Str) : Bool := (["room", "slots", "last_name", "kinds", "fields", "queues", "told"] : List Str).all fun x => !(m == x)
theorem hf_none {m : Str} (h : notFld m = true := by decide +kernel) : (hFlds A S).lookup m = none := by
  simp only [notFld, List.all_cons, List.all_nil, Bool.and_true, Bool.and_eq_true, Bool.not_eq_true'] at h
  obtain ⟨h1, h2, h3, h4, h5, h6, h7⟩ := h
  exact (lk_skip h1).trans ((lk_skip h2).trans ((lk_skip h3).trans ((lk_skip h4).trans ((lk_skip h5).trans ((lk_skip h6).trans ((lk_skip h7).trans rfl))))))
end
/-- what the walk asks of the class House and of the built-ins' names -/
structure HTxt (K : Fg) (mg : Str → Option Value) (C : Addr) : Prop where
  cl : Cls K C
  n_room : NoAttr K C "room"
  n_slots : NoAttr K C "slots"
  n_last : NoAttr K C "last_name"
  n_kinds : NoAttr K C "kinds"
  n_fields : NoAttr K C "fields"
  n_queues : NoAttr K C "queues"
  n_told : NoAttr K C "told"
  g_house : mg "House" = some (.ref C)
  g_len : mg "len" = none
  g_sorted : mg "sorted" = none
  g_range : mg "range" = none
  g_list : mg "list" = none
  g_isi : mg "isinstance" = none
  g_guards : ∃ t, mg "GUARDS" = some (.int 4 t)
/-- a method, a def of the text with its promise: ds the ends of its defaults by which it may be called -/
def MethOk (P : Program) (w : World) (K : Fg) (mg : Str → Option Value) (base : Heap) (C : Addr) (k : Nat) (m : Str) (ps : List Str) (sp : Sp) (dss : List (List Value)) : Prop :=
  ∃ f fd, Meth K C m f ∧ FnOk P w K mg base CX0 k f fd ps sp ∧ ∀ ds ∈ dss, Binds K fd ps ds
def DefOk (P : Program) (w : World) (K : Fg) (mg : Str → Option Value) (base : Heap) (k : Nat) (x : Str) (ps : List Str) (sp : Sp) (dss : List (List Value)) : Prop :=
  ∃ f fd, mg x = some (.ref f) ∧ PySem.W.keepIn K (.ref f) = true ∧ FnOk P w K mg base CX0 k f fd ps sp ∧ ∀ ds ∈ dss, Binds K fd ps ds

section
variable {C : Addr}
def spCheckSlot (C : Addr) : Sp := fun vs H Q _ => ∃ p A S i, vs = [.ref p, .int i] ∧ HouseAt C H p A S ∧ 0 ≤ i ∧ i < S.slots.length ∧ Q .non H
end
section
variable {C : Addr} {H : Hp} {p : Addr} {A : HA} {S : HS}
/-- the i-th box: what the two dicts say of its name -/
theorem kindsD_keys (bs : List Box) : (kindsD bs).map (·.1) = (bs.map (·.name)).map fun n => (Sum.inl n : Key) := by
  simp [kindsD, List.map_map, Function.comp_def]
theorem fieldsD_keys {bs : List Box} {fl : List Addr} (h : bs.length = fl.length) : (fieldsD bs fl).map (·.1) = (bs.map (·.name)).map fun n => (Sum.inl n : Key) := by
  unfold fieldsD
  rw [List.map_map, List.map_map]
  have : ((fun x : Key × V => x.1) ∘ fun q : Box × Addr => ((Sum.inl q.1.name : Key), V.ref q.2)) = (fun b : Box => (Sum.inl b.name : Key)) ∘ Prod.fst := rfl
  rw [this, ← List.map_map, List.map_fst_zip (by omega)]
  rfl
theorem nd_keys {l : List Int} (h : l.Nodup) : (l.map fun n => (Sum.inl n : Key)).Nodup := by
  induction l with
  | nil => exact List.nodup_nil
  | cons a r ih =>
    obtain ⟨h1, h2⟩ := List.nodup_cons.mp h
    rw [List.map_cons]
    refine List.nodup_cons.mpr ⟨fun m => h1 ?_, ih h2⟩
    obtain ⟨b, hb, e⟩ := List.mem_map.mp m
    rw [← Sum.inl.inj e]; exact hb
theorem HouseAt.ndK (h : HouseAt C H p A S) : ((kindsD S.boxes).map (·.1)).Nodup := by rw [kindsD_keys]; exact nd_keys h.nm
theorem HouseAt.ndF (h : HouseAt C H p A S) : ((fieldsD S.boxes A.fl).map (·.1)).Nodup := by rw [fieldsD_keys (pr_len h.fl)]; exact nd_keys h.nm
theorem HouseAt.kindAt (h : HouseAt C H p A S) {i : Nat} {b : Box} (e : S.boxes[i]? = some b) : valV (kindsD S.boxes) (Sum.inl b.name) = some (.str b.kind) := by
  refine valV_at h.ndK (i := i) ?_
  simp [kindsD, e]
theorem HouseAt.rowAt (h : HouseAt C H p A S) {i : Nat} {b : Box} (e : S.boxes[i]? = some b) : ∃ a ws, A.fl[i]? = some a ∧ H a = some (.lst ws) ∧ Ths H b.row ws ∧ valV (fieldsD S.boxes A.fl) (Sum.inl b.name) = some (.ref a) := by
  obtain ⟨a, ha, ws, hw, ht⟩ := pr_get h.fl e
  refine ⟨a, ws, ha, hw, ht, valV_at h.ndF (i := i) ?_⟩
  unfold fieldsD
  rw [List.getElem?_map, List.getElem?_zip_eq_some.mpr (show S.boxes[i]? = some (b, a).1 ∧ A.fl[i]? = some (b, a).2 from ⟨e, ha⟩)]
  rfl
theorem HouseAt.noName (h : HouseAt C H p A S) {n : Int} (e : ¬ n ∈ S.boxes.map (·.name)) : valV (kindsD S.boxes) (Sum.inl n) = none := by
  refine valV_out ?_
  rw [kindsD_keys]
  intro m
  obtain ⟨b, hb, q⟩ := List.mem_map.mp m
  rw [Sum.inl.inj q] at hb
  exact e hb
end
section
variable {C : Addr}
def spCheckBox (C : Addr) : Sp := fun vs H Q _ => ∃ p A S n, vs = [.ref p, .int n] ∧ HouseAt C H p A S ∧ n ∈ S.boxes.map (·.name) ∧ Q .non H
def spCheckField (C : Addr) : Sp := fun vs H Q _ => ∃ (p : Addr) (A : HA) (S : HS) (i : Nat) (b : Box) (at_ : Int), vs = [.ref p, .int b.name, .int at_] ∧ HouseAt C H p A S ∧ S.boxes[i]? = some b ∧ 0 ≤ at_ ∧ at_ < b.row.length ∧ Q .non H
def spHasRoom (C : Addr) : Sp := fun vs H Q _ => ∃ (p : Addr) (A : HA) (S : HS) (n : Int), vs = [.ref p, .int n] ∧ HouseAt C H p A S ∧ Q (.bl (decide ((S.boxes.length : Int) + n ≤ S.room))) H
/-- room is there: no sweep -/
def spMakeRoom0 (C : Addr) : Sp := fun vs H Q _ => ∃ (p : Addr) (A : HA) (S : HS) (n : Int) (v : V), vs = [.ref p, .int n, v] ∧ HouseAt C H p A S ∧ (S.boxes.length : Int) + n ≤ S.room ∧ Q .non H
def names (S : HS) : List Int := S.boxes.map (·.name)
theorem perm_asc : ∀ {a b : List Int}, a.Perm b → a.Pairwise (· ≤ ·) → b.Pairwise (· < ·) → a = b
  | [], b, h, _, _ => (List.nil_perm.mp h).symm
  | x :: a, [], h, _, _ => by simpa using h.length_eq
  | x :: a, y :: b, h, h1, h2 => by
    have e : x = y := by
      obtain ⟨p1, _⟩ := List.pairwise_cons.mp h1
      obtain ⟨p2, _⟩ := List.pairwise_cons.mp h2
      have m1 : x ∈ y :: b := h.mem_iff.mp List.mem_cons_self
      have m2 : y ∈ x :: a := h.mem_iff.mpr List.mem_cons_self
      rcases List.mem_cons.mp m1 with q | q
      · exact q
      · have l1 := p2 x q
        rcases List.mem_cons.mp m2 with r | r
        · exact r.symm
        · have l2 := p1 y r
          omega
    subst e
    rw [perm_asc ((List.perm_cons x).mp h) (List.pairwise_cons.mp h1).2 (List.pairwise_cons.mp h2).2]
def spNames (C : Addr) : Sp := fun vs H Q _ => ∃ p A S, vs = [.ref p] ∧ HouseAt C H p A S ∧ S.boxes.length < 64 ∧ ∀ l, H l = none → Q (.ref l) (upd H l (.lst ((names S).map V.int)))
def spKind (C : Addr) : Sp := fun vs H Q _ => ∃ (p : Addr) (A : HA) (S : HS) (i : Nat) (b : Box), vs = [.ref p, .int b.name] ∧ HouseAt C H p A S ∧ S.boxes[i]? = some b ∧ Q (.str b.kind) H
theorem in_names {S : HS} {i : Nat} {b : Box} (h : S.boxes[i]? = some b) : b.name ∈ S.boxes.map (·.name) := List.mem_map.mpr ⟨b, List.mem_of_getElem? h, rfl⟩
def spSize (C : Addr) : Sp := fun vs H Q _ => ∃ (p : Addr) (A : HA) (S : HS) (i : Nat) (b : Box), vs = [.ref p, .int b.name] ∧ HouseAt C H p A S ∧ S.boxes[i]? = some b ∧ Q (.int b.row.length) H
def spField (C : Addr) : Sp := fun vs H Q _ => ∃ (p : Addr) (A : HA) (S : HS) (i : Nat) (b : Box) (j : Nat) (t : T), vs = [.ref p, .int b.name, .int j] ∧ HouseAt C H p A S ∧ S.boxes[i]? = some b ∧ b.row[j]? = some t ∧ ∀ v, isT H t v → Q v H
def spHeld (C : Addr) : Sp := fun vs H Q _ => ∃ (p : Addr) (A : HA) (S : HS) (j : Nat) (t : T), vs = [.ref p, .int j] ∧ HouseAt C H p A S ∧ S.slots[j]? = some t ∧ ∀ v, isT H t v → Q v H
end
/-! ### new boxes -/
def sizeOf (kind : Str) (size : Int) : Int := if kind = "weak" then 1 else if kind = "pair" then 2 else size
def HS.built (S : HS) (kind : Str) (n : Nat) : HS := { S with last := S.last + 1, boxes := S.boxes ++ [(⟨S.last + 1, kind, List.replicate n .non⟩ : Box)] }
theorem hFlds_put (A : HA) (S : HS) (z : Int) : putF "last_name" (.int z) (hFlds A S) = hFlds A { S with last := z } := by
  have n1 : ¬ (("room" : Str) = "last_name") := by decide +kernel
  have n2 : ¬ (("slots" : Str) = "last_name") := by decide +kernel
  simp only [hFlds, putF, if_neg n1, if_neg n2, if_pos]
theorem nodup_mid {l : Addr} {a b r : List Addr} (h : (a ++ b ++ r).Nodup) (hl : l ∉ a ++ b ++ r) : (a ++ (b ++ [l]) ++ r).Nodup := by
  have e : a ++ (b ++ [l]) ++ r = (a ++ b) ++ l :: r := by simp
  rw [e, List.perm_middle.nodup_iff]
  exact List.nodup_cons.mpr ⟨hl, h⟩
theorem HouseAt.built {C : Addr} {H H' : Hp} {p : Addr} {A : HA} {S : HS} {l : Addr} {kind : Str} {n : Nat} (h : HouseAt C H p A S) (h1 : H' p = some (.ins C A.dx (hFlds A { S with last := S.last + 1 })))
    (h2 : H' A.kd = some (.dK (kindsD S.boxes ++ [((Sum.inl (S.last + 1) : Key), V.str kind)]))) (h3 : H' A.fd = some (.dK (fieldsD S.boxes A.fl ++ [((Sum.inl (S.last + 1) : Key), V.ref l)]))) (h4 : H' l = some (.lst (List.replicate n .non)))
    (hl : l ∉ A.lists) (hk : ∀ b ∈ A.lists, H' b = H b) (ht : Tups H H') : HouseAt C H' p { A with fl := A.fl ++ [l] } (S.built kind n) where
  ob := h1
  sl := h.sl.keep ht (hk _ (by simp [HA.lists]))
  kd := by rw [h2]; simp [kindsD, HS.built]
  fd := by
    rw [h3]
    show _ = some (HO.dK (((S.boxes ++ [(⟨S.last + 1, kind, List.replicate n .non⟩ : Box)]).zip (A.fl ++ [l])).map _))
    rw [List.zip_append (pr_len h.fl)]
    simp [fieldsD]
  fl := pr_app (pr_imp (fun b a _ ha z => z.keep ht (hk _ (by simp [HA.lists, ha]))) h.fl) (.cons ⟨_, h4, pr_rep (show isT H' .non .non from rfl) n⟩ .nil)
  qs := (hk _ (by simp [HA.lists])).trans h.qs
  ql := pr_imp (fun b a _ ha z => (hk _ (by simp [HA.lists, ha])).trans z) h.ql
  td := (hk _ (by simp [HA.lists])).trans h.td
  tl := pr_imp (fun b a _ ha z => (hk _ (by simp [HA.lists, ha])).trans z) h.tl
  nd := by
    have e : HA.lists A = [A.sl, A.qs, A.td] ++ A.fl ++ (A.ql ++ A.tl) := by simp [HA.lists]
    have e2 : HA.lists { A with fl := A.fl ++ [l] } = [A.sl, A.qs, A.td] ++ (A.fl ++ [l]) ++ (A.ql ++ A.tl) := by simp [HA.lists]
    have nd := h.nd
    rw [e] at nd hl
    rw [e2]
    exact nodup_mid nd hl
  kf := h.kf
  asc := by
    show ((S.boxes ++ [(⟨S.last + 1, kind, List.replicate n .non⟩ : Box)]).map (·.name)).Pairwise (· < ·)
    rw [List.map_append, List.pairwise_append]
    refine ⟨h.asc, List.pairwise_singleton _ _, fun x hx y hy => ?_⟩
    obtain ⟨b, hb, rfl⟩ := List.mem_map.mp hx
    have hy : y = S.last + 1 := by simpa using hy
    have := h.top b hb
    omega
  top := fun b hb => by
    have hb : b ∈ S.boxes ++ [(⟨S.last + 1, kind, List.replicate n .non⟩ : Box)] := hb
    show b.name ≤ S.last + 1
    rcases List.mem_append.mp hb with q | q
    · have := h.top b q; omega
    · have q : b = ⟨S.last + 1, kind, List.replicate n .non⟩ := by simpa using q
      subst q
      exact Int.le_refl _
def fixed : List (Key × V) := [(Sum.inr "weak", .int 1), (Sum.inr "pair", .int 2)]
theorem fixed_get (kind : Str) (size : Int) : (valV fixed (Sum.inr kind)).getD (.int size) = V.int (sizeOf kind size) := by
  unfold fixed sizeOf
  by_cases h1 : kind = "weak"
  · subst h1
    rw [valV_pos rfl, if_pos rfl]
    rfl
  · rw [valV_neg (fun e => h1 (Sum.inr.inj e).symm), if_neg h1]
    by_cases h2 : kind = "pair"
    · subst h2
      rw [valV_pos rfl, if_pos rfl]
      rfl
    · rw [valV_neg (fun e => h2 (Sum.inr.inj e).symm), if_neg h2]
      rfl
theorem flat_rep (n : Nat) : (List.replicate n [V.non]).flatten = List.replicate n V.non := by
  induction n with
  | zero => rfl
  | succ n ih => rw [List.replicate_succ, List.flatten_cons, ih, List.replicate_succ]; rfl
section
variable {C : Addr}
/-- the ends of a call that changes a house -/
def Out (C : Addr) (H : Hp) (p : Addr) (A : HA) (S' : HS) (Q : V → Hp → Prop) (v : V) : Prop := ∀ A' H', HouseAt C H' p A' S' → Frame (A.foot p) H H' → Tups H H' → Grown (A.foot p) (A'.foot p) H → Q v H'

def spBoxThing : Sp := fun vs H Q _ => ∃ n, vs = [.int n] ∧ ∀ a, H a = none → Q (.ref a) (upd H a (.tup [.str "box", .int n]))
/-- a slot is given another thing -/
theorem HouseAt.setSlot {H : Hp} {p : Addr} {A : HA} {S : HS} {ws : List V} {j : Nat} {t : T} {v : V} (h : HouseAt C H p A S) (hw : H A.sl = some (.lst ws)) (ht : Ths H S.slots ws) (tv : isT H t v) :
    HouseAt C (upd H A.sl (.lst (ws.set j v))) p A { S with slots := S.slots.set j t } := by
  have tu : Tups H (upd H A.sl (.lst (ws.set j v))) := Tups.upd hw (by intro xs z; cases z)
  have nd : A.sl ∉ A.qs :: A.td :: (A.fl ++ (A.ql ++ A.tl)) := (List.nodup_cons.mp h.nd).1
  have ne : ∀ b ∈ A.qs :: A.td :: (A.fl ++ (A.ql ++ A.tl)), b ≠ A.sl := fun b hb e => nd (e ▸ hb)
  refine ⟨?_, ⟨_, upd_same, Ths.keep tu (pr_set tv j ht)⟩, ?_, ?_, pr_imp (fun b a _ ha z => z.keep tu (upd_ne (ne _ (by simp [ha])))) h.fl, ?_, pr_imp (fun b a _ ha z => (upd_ne (ne _ (by simp [ha]))).trans z) h.ql, ?_,
    pr_imp (fun b a _ ha z => (upd_ne (ne _ (by simp [ha]))).trans z) h.tl, h.nd, h.kf, h.asc, h.top⟩
  · rw [upd_ne (ne_of h.ob hw (by intro z; cases z))]; exact h.ob
  · rw [upd_ne (ne_of h.kd hw (by intro z; cases z))]; exact h.kd
  · rw [upd_ne (ne_of h.fd hw (by intro z; cases z))]; exact h.fd
  · rw [upd_ne (ne _ (by simp))]; exact h.qs
  · rw [upd_ne (ne _ (by simp))]; exact h.td
def HS.made (S : HS) (kind : Str) (n slot : Nat) : HS := { S.built kind n with slots := S.slots.set slot (.box (S.last + 1)) }
/-- make where there is room -/
def spMake0 (C : Addr) : Sp := fun vs H Q _ => ∃ (p : Addr) (A : HA) (S : HS) (kind : Str) (size : Int) (slot : Nat), vs = [.ref p, .str kind, .int size, .int slot] ∧ HouseAt C H p A S ∧ 0 ≤ sizeOf kind size ∧ sizeOf kind size ≤ 1000 ∧ S.boxes.length ≤ 1000 ∧ (S.boxes.length : Int) < S.room ∧
  slot < S.slots.length ∧ Out C H p A (S.made kind (sizeOf kind size).toNat slot) Q (.int (S.last + 1))
/-- one new box, of a draft of one row with nothing in its fields -/
def spBuild1 (C : Addr) : Sp := fun vs H Q _ => ∃ (p : Addr) (A : HA) (S : HS) (kind : Str) (n slot : Nat) (ad at_ al : Addr), vs = [.ref p, .ref ad, .int slot] ∧ HouseAt C H p A S ∧ H ad = some (.lst [.ref at_]) ∧ H at_ = some (.tup [.str kind, .ref al]) ∧
  H al = some (.lst (List.replicate n .non)) ∧ n ≤ 1000 ∧ S.boxes.length ≤ 1000 ∧ (S.boxes.length : Int) < S.room ∧ slot < S.slots.length ∧ Out C H p A (S.made kind n slot) Q (.int (S.last + 1))
theorem ixN_nat {n j : Nat} (h : j < n) : ixN n (j : Int) = some j := by
  unfold ixN
  rw [if_pos (by omega), if_pos (by omega)]
  simp
end
/-! ### the text by places -/
def stAt (l : List Stmt) (i : Nat) : Stmt := l.getD i (.Pass ⟨0, 0, 0, 0⟩)
def asgVal : Stmt → Expr
  | .Assign _ v _ => v
  | _ => .Constant .none 0 ⟨0, 0, 0, 0⟩
def retVal : Stmt → Expr
  | .Return (some v) _ => v
  | _ => .Constant .none 0 ⟨0, 0, 0, 0⟩
def callArg (i : Nat) : Expr → Expr
  | .Call _ args _ _ => args.getD i (.Constant .none 0 ⟨0, 0, 0, 0⟩)
  | _ => .Constant .none 0 ⟨0, 0, 0, 0⟩
def forBody : Stmt → List Stmt
  | .For _ _ b _ _ => b
  | _ => []
def compScope : Expr → Scope
  | .ListComp _ _ sc _ => sc
  | _ => { kind := .function, names := [], isGenerator := false, isCoroutine := false }
/-- [[] for guard in range(4)] -/
theorem comp4 {σ : St} {H : Hp} {Q : VK} (k : ∀ (as : List Addr) (H' : Hp), as.length = 4 → as.Nodup → (∀ a ∈ as, H a = none ∧ H' a = some (.lst [])) → Same H H' → ∀ p, H' p = none → Q (.ref p) (upd H' p (.lst (as.map V.ref)))) :
    tComp (iRng1 (tCons (tC (.int 4)) tNil)) [] tNoIf (tLst tNil) σ H Q := by
  refine ⟨4, rfl, by decide, by decide, comp_range (lo := 0) (n := 4) (fun i ys H' => ∃ as : List Addr, ys = as.map V.ref ∧ as.length = i ∧ as.Nodup ∧ (∀ a ∈ as, H a = none ∧ H' a = some (.lst [])) ∧ Same H H')
    ⟨[], rfl, rfl, List.nodup_nil, by simp, Same.refl _⟩ ?_ (by decide) ?_ ?_⟩
  · rintro i ys H' ⟨as, rfl, hl, _⟩
    rw [List.length_map]; omega
  · rintro i ys H' hi ⟨as, rfl, hl, nd, ha, hs⟩
    dsimp only [tNoIf]
    refine iteT ⟨by decide, fun p hp => ⟨as ++ [p], by simp, by simp [hl], ?_, fun a ha' => ?_, fun b o q => ?_⟩⟩
    · refine nd_snoc nd fun m => ?_
      rw [(ha p m).2] at hp; cases hp
    · rcases List.mem_append.mp ha' with q | q
      · exact ⟨(ha a q).1, by rw [upd_ne (ne_of_none (ha a q).2 hp)]; exact (ha a q).2⟩
      · have q : a = p := by simpa using q
        subst q
        exact ⟨hs.free hp, upd_same⟩
    · rw [upd_ne (ne_of_none (hs b o q) hp)]
      exact hs b o q
  · rintro ys H' ⟨as, rfl, hl, nd, ha, hs⟩ p hp
    exact k as H' hl nd ha hs p hp
def HS.empty (room : Int) (n : Nat) : HS := ⟨room, List.replicate n .non, 0, [], [[], [], [], []], [[], [], [], []]⟩
theorem init_flds (room : Int) (sl kd fd qs td : Addr) : putF "told" (V.ref td) (putF "queues" (V.ref qs) (putF "fields" (V.ref fd) (putF "kinds" (V.ref kd) (putF "last_name" (V.int 0) (putF "slots" (V.ref sl) (putF "room" (V.int room) [])))))) =
    ([("room", .int room), ("slots", .ref sl), ("last_name", .int 0), ("kinds", .ref kd), ("fields", .ref fd), ("queues", .ref qs), ("told", .ref td)] : List (Str × V)) := by kernel_rfl
theorem paired4 {α β : Type} {F : α → β → Prop} {x : α} {l : List β} (hl : l.length = 4) (h : ∀ y ∈ l, F x y) : Paired F [x, x, x, x] l := by
  match l, hl, h with
  | [a, b, c, d], _, h => exact .cons (h a (by simp)) (.cons (h b (by simp)) (.cons (h c (by simp)) (.cons (h d (by simp)) .nil)))
theorem kp_p {p b : Addr} {H : Hp} {o u : HO} (h : H b = some u) (n : b ≠ p) : upd H p o b = some u := by rw [upd_ne n]; exact h
theorem kp_n {a b : Addr} {H : Hp} {o u : HO} (h : H b = some u) (n : H a = none) : upd H a o b = some u := by rw [upd_ne (ne_of_none h n)]; exact h
theorem un_p {a b : Addr} {H : Hp} {o : HO} (h : upd H a o b = none) : H b = none := by
  have : b ≠ a := fun e => by subst e; rw [upd_same] at h; cases h
  rw [upd_ne this] at h
  exact h
section
variable {C : Addr}
def spInit (C : Addr) : Sp := fun vs H Q _ => ∃ (p dx : Addr) (room n : Int), vs = [.ref p, .int room, .int n] ∧ H p = some (.ins C dx []) ∧ 0 ≤ n ∧ n ≤ 1000 ∧
  ∀ A' H', HouseAt C H' p A' (HS.empty room n.toNat) → Frame [p] H H' → Tups H H' → Grown [p] (A'.foot p) H → Q .non H'
end
/-- the script: one list of ints, never changed -/
def Scr (K : Fg) (H : Hp) (a : Addr) (ns : List Int) : Prop :=
  (∃ o, H a = some (.frz o (.lst (ns.map V.int)))) ∨
    ∃ (o : Obj) (its : Array Value) (n : Nat), K.lookup a = some o ∧ o.cls = .type "list" ∧ o.dict = none ∧ o.data = .seq its n ∧ its.size ≤ sizeLine ∧ Vals (ns.map V.int) its.toList
theorem Scr.sq {K : Fg} {H : Hp} {a : Addr} {ns : List Int} (h : Scr K H a ns) : SqL K H a (ns.map V.int) := by
  rcases h with ⟨o, h⟩ | h
  · exact .inl (.inr ⟨o, h⟩)
  · exact .inr h
theorem Scr.of {K : Fg} {H : Hp} {a : Addr} {ns : List Int} (hO : Only H) (h : SqL K H a (ns.map V.int)) : Scr K H a ns := by
  rcases h with (h | ⟨o, h⟩) | h
  · rcases hO a with z | ⟨o, xs, z⟩
    · rw [h] at z; cases z
    · rw [h] at z; cases z
  · exact .inl ⟨o, h⟩
  · exact .inr h
/-- what is frozen stays -/
def Frz (H H' : Hp) : Prop := ∀ b o u, H b = some (.frz o u) → H' b = some (.frz o u)
theorem Scr.keep {K : Fg} {H H' : Hp} {a : Addr} {ns : List Int} (f : Frz H H') (h : Scr K H a ns) : Scr K H' a ns := by
  rcases h with ⟨o, h⟩ | h
  · exact .inl ⟨o, f _ _ _ h⟩
  · exact .inr h
theorem HouseAt.frz {C : Addr} {H H' : Hp} {p : Addr} {A : HA} {S : HS} (h : HouseAt C H p A S) (f : Frame (A.foot p) H H') : Frz H H' := fun b o u q => f b _ q fun m => by
  have m : b = p ∨ b = A.kd ∨ b = A.fd ∨ b ∈ A.lists := by simpa [HA.foot] using m
  rcases m with e | e | e | e
  · subst e; rw [h.ob] at q; cases q
  · subst e; rw [h.kd] at q; cases q
  · subst e; rw [h.fd] at q; cases q
  · obtain ⟨vs, z⟩ := h.isL b e
    rw [z] at q; cases q

/-- what the walk asks of the built-ins' names and types -/
structure LTxt (K : Fg) (mg : Str → Option Value) : Prop where
  g_len : mg "len" = none
  g_range : mg "range" = none
  g_list : mg "list" = none
  g_isi : mg "isinstance" = none
  g_int : mg "int" = none
  g_bool : mg "bool" = none
  g_tuple : mg "tuple" = none
  g_str : mg "str" = none
  g_sorted : mg "sorted" = none
  g_enumerate : mg "enumerate" = none
  s_ib : PySem.W.subIn K (.type "int") (.type "bool") = some false
  s_it : PySem.W.subIn K (.type "int") (.type "tuple") = some false
theorem kit_same (K : Fg) (n : String) : PySem.W.kitOne K (.type n) (.type n) = some true := by
  unfold PySem.W.kitOne
  rw [if_pos (by simp)]
theorem kit_sub {K : Fg} {t : Value} {n : String} {b : Bool} (h : (t == Value.type n) = false) (m : PySem.W.kitMeta n = true) (s : PySem.W.subIn K t (.type n) = some b) : PySem.W.kitOne K t (.type n) = some b := by
  unfold PySem.W.kitOne PySem.W.kitCls
  rw [if_neg (by rw [h]; exact Bool.false_ne_true)]
  show (if PySem.W.kitMeta n = true then PySem.W.subIn K t (.type n) else none) = some b
  rw [if_pos m]
  exact s
def spWhole : Sp := fun vs H Q _ => ∃ i : Int, vs = [.int i] ∧ Q (.bl true) H
def spNamesL (K : Fg) : Sp := fun vs H Q _ => ∃ (a b : Addr) (ns : List Int), vs = [.ref a, .ref b] ∧ H a = some (.lst (ns.map V.int)) ∧ SqL K H b (ns.map V.int) ∧ ns.length ≤ 1000 ∧ Q (.bl true) H
def spSame : Sp := fun vs H Q _ => ∃ (v u : V) (t : T), vs = [v, u] ∧ isT H t v ∧ isT H t u ∧ Q (.bl true) H
def nowhere : PySem.Expr := .Constant .none 0 ⟨0, 0, 0, 0⟩
def ifTest : Stmt → PySem.Expr | .If t _ _ _ => t | _ => nowhere
def cmpL : PySem.Expr → PySem.Expr | .Compare v _ _ _ => v | _ => nowhere
def cmpR (i : Nat) : PySem.Expr → PySem.Expr | .Compare _ _ vs _ => vs.getD i nowhere | _ => nowhere
structure TX (K : Fg) (mg : Str → Option Value) (C : Addr) : Prop extends HTxt K mg C, LTxt K mg
def MakeOk (P : Program) (w : World) (K : Fg) (mg : Str → Option Value) (base : Heap) (C : Addr) (k : Nat) (ps : List Str) (sp : Sp) (dss : List (List Value)) : Prop :=
  ∃ f fd j, j + 1 ≤ k ∧ Mk K C f ∧ FnOk P w K mg base CX0 j f fd ps sp ∧ ∀ ds ∈ dss, Binds K fd ps ds
section
variable {C : Addr} {j k : Nat} {m x : Str} {ps : List Str} {sp : Sp} {dss : List (List Value)}
theorem MethOk.mono (h : MethOk P w K mg base C j m ps sp dss) (e : j ≤ k) : MethOk P w K mg base C k m ps sp dss := let ⟨f, fd, a, b, c⟩ := h; ⟨f, fd, a, b.mono e, c⟩
theorem DefOk.mono (h : DefOk P w K mg base j x ps sp dss) (e : j ≤ k) : DefOk P w K mg base k x ps sp dss := let ⟨f, fd, a, a', b, c⟩ := h; ⟨f, fd, a, a', b.mono e, c⟩
theorem MakeOk.mono (h : MakeOk P w K mg base C j ps sp dss) (e : j ≤ k) : MakeOk P w K mg base C k ps sp dss := let ⟨f, fd, i, hi, a, b, c⟩ := h; ⟨f, fd, i, Nat.le_trans hi e, a, b, c⟩
end
/-! ### the house among the roots -/
section
variable {C p : Addr} {H H' : Hp} {A A' : HA} {S S' : HS} {W : List Rt} {i : Nat}
theorem HA.footNd (h : HouseAt C H p A S) : (A.foot p).Nodup := by
  have n1 : ∀ b ∈ A.lists, b ≠ p := fun b hb e => by
    obtain ⟨vs, z⟩ := h.isL b hb
    rw [e, h.ob] at z; cases z
  have n2 : ∀ b ∈ A.lists, b ≠ A.kd := fun b hb e => by
    obtain ⟨vs, z⟩ := h.isL b hb
    rw [e, h.kd] at z; cases z
  have n3 : ∀ b ∈ A.lists, b ≠ A.fd := fun b hb e => by
    obtain ⟨vs, z⟩ := h.isL b hb
    rw [e, h.fd] at z; cases z
  have e1 : p ≠ A.kd := ne_of h.ob h.kd (by intro z; cases z)
  have e2 : p ≠ A.fd := ne_of h.ob h.fd (by intro z; cases z)
  show (p :: A.kd :: A.fd :: A.lists).Nodup
  refine List.nodup_cons.mpr ⟨fun m => ?_, List.nodup_cons.mpr ⟨fun m => ?_, List.nodup_cons.mpr ⟨fun m => n3 _ m rfl, h.nd⟩⟩⟩
  · rcases List.mem_cons.mp m with q | m
    · exact e1 q
    · rcases List.mem_cons.mp m with q | m
      · exact e2 q
      · exact n1 _ m rfl
  · rcases List.mem_cons.mp m with q | m
    · exact h.kf q
    · exact n2 _ m rfl
theorem Own.house (w : Own H W) (h : W[i]? = some (rHouse C p S)) : ∃ A, HouseAt C H p A S := by
  obtain ⟨F, A, q, _⟩ := w.get h
  exact ⟨A, q⟩
/-- behind a call that changes the house -/
theorem Own.houseOut (w : Own H W) (h : W[i]? = some (rHouse C p S)) : ∃ A, HouseAt C H p A S ∧
    ∀ A' H' S', HouseAt C H' p A' S' → Frame (A.foot p) H H' → Tups H H' → Grown (A.foot p) (A'.foot p) H → Own H' (W.set i (rHouse C p S')) := by
  obtain ⟨F, G, ⟨A, hh, rfl⟩, nd, dj, th, fin⟩ := w.chg h
  refine ⟨A, hh, fun A' H' S' hh' fr tu gr => fin H' _ (A'.foot p) ⟨A', hh', rfl⟩ (HA.footNd hh') gr (fun b hb => ?_) ⟨tu, hh.frz fr⟩⟩
  obtain ⟨o, e⟩ := th b hb
  rw [e]
  exact fr b o e fun m => dj b m hb
/-- a new house -/
theorem Own.houseNew (w : Own H W) (hh : HouseAt C H' p A S) (fr : Frame [] H H') (n : ∀ b ∈ A.foot p, H b = none) : Own H' (rHouse C p S :: W) := by
  obtain ⟨Fs, pr, nd⟩ := w
  have im : Same H H' := fun b o q => fr b o q (by simp)
  have out : ∀ b ∈ A.foot p, b ∉ Fs.flatten := fun b hb z => by
    obtain ⟨F, hF, hb2⟩ := List.mem_flatten.mp z
    obtain ⟨j, hj⟩ := List.getElem?_of_mem hF
    obtain ⟨r, _, q⟩ := pr_getR pr hj
    obtain ⟨o, e⟩ := r.there q b hb2
    rw [n b hb] at e; cases e
  refine ⟨A.foot p :: Fs, .cons ⟨A, hh, rfl⟩ (pr_imp (fun r F _ _ z => r.keep z (fun b hb => ?_) (Imm.same im)) pr), ?_⟩
  · obtain ⟨o, e⟩ := r.there z b hb
    rw [e]; exact im _ _ e
  · rw [List.flatten_cons]
    exact List.nodup_append.mpr ⟨HA.footNd hh, nd, fun x hx y hy e => out x hx (e ▸ hy)⟩
end
/-! ### a field of a box is given another thing -/
def setRow (bs : List Box) (i at_ : Nat) (t : T) : List Box := bs.modify i fun b => { b with row := b.row.set at_ t }
def HS.put (S : HS) (i at_ : Nat) (t : T) : HS := { S with boxes := setRow S.boxes i at_ t }
theorem vals_n : Vals [V.non] [Value.none] := .cons rfl .nil
theorem vals_1 (i : Int) (t : Tok) : Vals [V.int i] [Value.int i t] := .cons ⟨t, rfl⟩ .nil
theorem sub_nt (K : Fg) : PySem.W.kitOne K (.type "NoneType") (.type "tuple") = some false := kit_sub (by decide +kernel) (by decide +kernel) (by rfl)
theorem sub_it (K : Fg) : PySem.W.kitOne K (.type "int") (.type "tuple") = some false := kit_sub (by decide +kernel) (by decide +kernel) (by rfl)
/-- the name of a thing's box -/
def T.nm : T → V
  | .box n => .int n
  | _ => .non
def T.In (t : T) (ns : List Int) : Prop := ∀ n, t = .box n → n ∈ ns
section
variable {C : Addr}
def spBoxName : Sp := fun vs H Q _ => ∃ (v : V) (t : T), vs = [v] ∧ isT H t v ∧ Q t.nm H
/-- a thing of a draft, with the names that its boxes have now -/
def spRenamed : Sp := fun vs H Q _ => ∃ (v : V) (t : T) (a : Addr) (ns : List Int), vs = [v, .ref a] ∧ isT H t v ∧ H a = some (.lst (ns.map V.int)) ∧
  match t with
  | .box n => ∃ (j : Nat) (m : Int), n = (j : Int) ∧ ns[j]? = some m ∧ ∀ x, H x = none → Q (.ref x) (upd H x (.tup [.str "box", .int m]))
  | _ => Q v H
def HS.hold (S : HS) (j : Nat) (t : T) : HS := { S with slots := S.slots.set j t }
end
def cellOf (ns : List Int) (k : Int) : Int := ns.getD k.toNat 0
theorem intsUp_snoc (lo : Int) (n : Nat) : intsUp lo (n + 1) = intsUp lo n ++ [lo + n] := by
  unfold intsUp
  rw [List.range_succ, List.map_append]
  rfl
theorem intsUp_mem {lo : Int} {n : Nat} {x : Int} : x ∈ intsUp lo n ↔ lo ≤ x ∧ x < lo + n := by
  unfold intsUp
  rw [List.mem_map]
  constructor
  · rintro ⟨k, hk, rfl⟩
    have := List.mem_range.mp hk
    omega
  · rintro ⟨h1, h2⟩
    exact ⟨(x - lo).toNat, List.mem_range.mpr (by omega), by omega⟩
theorem len_small {n : Nat} (h : n ≤ 1000) : n ≤ sizeLine := Nat.le_of_lt (small1000 h)
section
variable {C : Addr}
def spCellD (K : Fg) : Sp := fun vs H Q _ => ∃ (a : Addr) (ns : List Int) (k : Int), vs = [.ref a, .int k] ∧ Scr K H a ns ∧ 0 ≤ k ∧ Q (.int (cellOf ns k)) H
end
section
variable {C : Addr}
end
def e4 : List (List Int) := [[], [], [], []]
/-- what a dict of kinds, a dict of rows say of the i-th box -/
theorem kindAt {bs : List Box} (nd : (bs.map (·.name)).Nodup) {i : Nat} {b : Box} (e : bs[i]? = some b) : valV (kindsD bs) (Sum.inl b.name) = some (.str b.kind) := by
  refine valV_at (by rw [kindsD_keys]; exact nd_keys nd) (i := i) ?_
  simp [kindsD, e]
theorem rowAt {bs : List Box} {fl : List Addr} (hl : bs.length = fl.length) (nd : (bs.map (·.name)).Nodup) {i : Nat} {b : Box} {a : Addr} (e : bs[i]? = some b) (ha : fl[i]? = some a) : valV (fieldsD bs fl) (Sum.inl b.name) = some (.ref a) := by
  refine valV_at (by rw [fieldsD_keys hl]; exact nd_keys nd) (i := i) ?_
  unfold fieldsD
  rw [List.getElem?_map, List.getElem?_zip_eq_some.mpr (show bs[i]? = some (b, a).1 ∧ fl[i]? = some (b, a).2 from ⟨e, ha⟩)]
  rfl
theorem intsUp_asc (lo : Int) : ∀ n : Nat, (intsUp lo n).Pairwise (· < ·)
  | 0 => .nil
  | n + 1 => by
    rw [intsUp_snoc]
    refine List.pairwise_append.mpr ⟨intsUp_asc lo n, List.pairwise_singleton _ _, fun x hx y hy => ?_⟩
    rw [List.mem_singleton.mp hy]
    exact (intsUp_mem.mp hx).2
section
variable {C : Addr}
def spAs (C : Addr) : Sp := fun vs H Q _ => ∃ (p ak ar as : Addr) (A : HA) (S : HS) (fl : List Addr), vs = [.ref p, .ref ak, .ref ar, .ref as] ∧ HouseAt C H p A S ∧ H ak = some (.dK (kindsD S.boxes)) ∧ H ar = some (.dK (fieldsD S.boxes fl)) ∧
  Paired (fun b a => ThL H b.row a) S.boxes fl ∧ ThL H S.slots as ∧ S.boxes.length < 64 ∧ ∀ H', Same H H' → Q (.bl true) H'
end
/-! ### the record among the roots -/
def rScr (K : Fg) (a : Addr) (ns : List Int) : Rt where
  on H F := Scr K H a ns ∧ F = []
  keep := by
    rintro H H' F ⟨h, rfl⟩ k im
    exact ⟨h.keep im.f, rfl⟩
  there := by
    rintro H F ⟨h, rfl⟩ b hb
    simp at hb
theorem Own.scr {K : Fg} {H : Hp} {W : List Rt} {i : Nat} {a : Addr} {ns : List Int} (w : Own H W) (h : W[i]? = some (rScr K a ns)) : Scr K H a ns := by
  obtain ⟨F, q, _⟩ := w.get h
  exact q
end LW

/-! two boxes changed about -/
namespace LW
open PySem L2
section
variable {α : Type}
end
section
variable {bs : List Box} {fl : List Addr} {i j : Nat} {x y : Box} {fi fj : Addr}
end
section
variable {C : Addr} {H H' : Hp} {p : Addr} {A : HA} {S : HS} {i j : Nat} {x y : Box} {fi fj : Addr}
end
section
variable {C : Addr} {H : Hp} {p : Addr} {A : HA} {S : HS} {g : Nat} {a : Addr} {ns ms : List Int}
end
section
variable {C : Addr} {H H1 H2 : Hp} {p : Addr} {A A1 A2 : HA} {S1 S2 : HS} {l : Addr} {o : HO}
end
section
variable {H : Hp} {W : List Rt} {i j : Nat} {r r2 : Rt}
variable {ak ar : Addr} {bs : List Box} {m n : Nat} {x y : Box}
end
end LW

/-! d.setdefault(k, x) -/
namespace L2
open PySem PySem.Spec PyProof.Rows
section
variable {X : Cx} {pins : Pn} {σ : St} {H : Hp} {s : Shared} {a : Addr} {kvs : List (Key × V)} {k : Key} {u r : Value} {d : V} {A : Around} {E : Value → Shared → Prop}
end
end L2

/-! who is held: the search as it lies in the heap -/
namespace LW
open PySem L2
/-- a row of the paper -/
inductive Rw where
  | slot (n s : Int) | told (n g : Int) | bes (n : Int) | plain (n h at_ : Int) | pair (n h : Int)
def Rw.nm : Rw → Int
  | .slot n _ => n
  | .told n _ => n
  | .bes n => n
  | .plain n _ _ => n
  | .pair n _ => n
def Rw.vs : Rw → List V
  | .slot n s => [.int n, .str "slot", .int s]
  | .told n g => [.int n, .str "told", .int g]
  | .bes n => [.int n, .str "besides"]
  | .plain n h i => [.int n, .str "plain", .int h, .int i]
  | .pair n h => [.int n, .str "pair", .int h]
structure SS where
  rows : List Rw
  locked : List (Int × List Int)
def SS.names (st : SS) : List Int := st.rows.map Rw.nm
structure SB where
  dx : Addr
  rl : Addr
  ld : Addr
  kd : Addr
  ll : List Addr
def SB.foot (B : SB) (q : Addr) : List Addr := q :: B.ld :: B.kd :: B.rl :: B.ll
section
variable {p : Addr} {B : SB}
end
section
variable {CS : Addr} {H H' : Hp} {q p : Addr} {B : SB} {st : SS}
end
structure HS.Ok (S : HS) : Prop where
  row : ∀ b ∈ S.boxes, ∀ t ∈ b.row, t.In (names S)
  pair : ∀ b ∈ S.boxes, b.kind = "pair" → b.row.length = 2
  slot : ∀ t ∈ S.slots, t.In (names S)
  told : ∀ xs ∈ S.told, ∀ n ∈ xs, n ∈ names S
  few : S.boxes.length ≤ 900
  eight : ∀ b ∈ S.boxes, b.row.length ≤ 900
section
variable {C CS : Addr} {H H1 H2 : Hp} {q p l : Addr} {A : HA} {S : HS} {B B1 B2 : SB} {st st1 st2 : SS} {o : HO}
end
section
variable {X : Cx} {n : Nat} {x m : Str} {ps : List Str} {sp : Sp} {dss : List (List Value)} {e o : Expr} {es : List Expr} {t : TA} {ta : TE} {p pos apos : Pos} {C : Addr}
theorem qc (D : DefOk X.prog X.w X.K X.mg X.base n x ps sp ([] :: dss)) (hr : Room n X.A) (ha : PA X (e :: es) t) (hg : Gl X x := by rfl) (hdb : (x == ("__debug__" : Str)) = false := by decide) (he : starEach (e :: es) X.env = (false, eval e X.env) :: starEach es X.env := by rfl) (hpl : (backTo pos (starEach es X.env)).any (·.1) = false := by rfl) :
    PE X (.Call (.Name x p) (e :: es) [] pos) (tCall sp [] E0 t) := let ⟨_, _, a, k, F, b⟩ := D; pe_call F hr hg a k (b [] List.mem_cons_self) .nil pass0 ha hdb he hpl
theorem qm {pl : Sem Bool} (M : MethOk X.prog X.w X.K X.mg X.base C n m ps sp ([] :: dss)) (he : PE X o ta) (c : Cls X.K C) (hr : Room n X.A) (ha : PA X (e :: es) t)
    (hst : starEach (e :: es) X.env = (false, eval e X.env) :: starEach es X.env := by rfl) (hpl : (backTo pos (starEach es X.env)).any (·.1) = false := by rfl)
    (ht : eval (.Call (.Attribute o m apos) (e :: es) [] pos) X.env = (do
      let ov ← eval o X.env
      standAt apos.atName
      let (f, first) ← holding [ov] (getMethod ov m pl)
      callWith pos f first (backTo pos (starEach (e :: es) X.env)) (backToKw pos (keywordEach [] X.env))) := by rfl) :
    PE X (.Call (.Attribute o m apos) (e :: es) [] pos) (tMeth C m sp [] E0 ta t) := let ⟨_, _, a, F, b⟩ := M; pe_meth he c a F hr (b [] List.mem_cons_self) .nil pass0 ha hst hpl ht
theorem qm0 {pl : Sem Bool} (M : MethOk X.prog X.w X.K X.mg X.base C n m ps sp ([] :: dss)) (he : PE X o ta) (c : Cls X.K C) (hr : Room n X.A)
    (ht : eval (.Call (.Attribute o m apos) [] [] pos) X.env = (do
      let ov ← eval o X.env
      standAt apos.atName
      let (f, first) ← holding [ov] (getMethod ov m pl)
      callWith pos f first (backTo pos (starEach [] X.env)) (backToKw pos (keywordEach [] X.env))) := by rfl) :
    PE X (.Call (.Attribute o m apos) [] [] pos) (tMeth C m sp [] E0 ta tNil) := let ⟨_, _, a, F, b⟩ := M; pe_meth0 he c a F hr (b [] List.mem_cons_self) .nil pass0 ht
end
end LW

namespace L2
open PySem
theorem fsk {N P : List Str} {sc : Scope} (h1 : sc.kind = .function := by rfl) (h2 : sc.isCoroutine = false := by rfl) (h3 : sc.isGenerator = false := by rfl) (h4 : N.Nodup := by decide +kernel) (h5 : N.take P.length = P := by rfl) (h6 : ∀ x ∈ P, sc.names.lookup x = some .local ∨ sc.names.lookup x = some .cell := by decide +kernel) (h7 : ∀ y ∈ sc.names, y.2 ≠ .free := by decide +kernel) : FnScope N P sc := ⟨h1, h2, h3, h4, h5, h6, h7⟩
theorem bsk {osc sc : Scope} {oN N : List Str} {x : Str} {fr : List Nat} (h1 : sc.kind = .function := by rfl) (h2 : ∀ y ∈ sc.names, y.2 ≠ .cell := by decide +kernel) (h3 : ∀ y ∈ sc.names, y.2 = .local → sc.names.lookup y.1 = some .local := by decide +kernel) (h4 : ∀ y ∈ sc.names, y.2 = .free → osc.names.lookup y.1 = some .cell := by decide +kernel) (h5 : sc.names.lookup x = some .local := by rfl) (h6 : (x :: N).Nodup := by decide +kernel) (h7 : fr.map (fun i => oN[i]?) = N.map some := by rfl) (h8 : ∀ y ∈ N, sc.names.lookup y = some .free := by decide +kernel) : BlkScope osc oN sc x N fr := ⟨h1, h2, h3, h4, h5, h6, h7, h8⟩
end L2
namespace LW
open PySem L2
def top (i : Nat) : Stmt := PySem.Challenge.pw_lastword_k24_read_or_refused.main.body.getD i (.Pass ⟨0, 0, 0, 0⟩)
abbrev s_f_box_thing : Stmt := top 12
theorem sc_f_box_thing : FnScope ["name"] ["name"] (defScope s_f_box_thing) := fsk
abbrev s_f_box_name : Stmt := top 13
theorem sc_f_box_name : FnScope ["thing"] ["thing"] (defScope s_f_box_name) := fsk
abbrev s_f_renamed : Stmt := top 14
theorem sc_f_renamed : FnScope ["thing", "new_names", "name"] ["thing", "new_names"] (defScope s_f_renamed) := fsk
abbrev s_m_House_init : Stmt := inClass (top 29) 0
theorem sc_m_House_init : FnScope ["self", "room", "slots"] ["self", "room", "slots"] (defScope s_m_House_init) := fsk
abbrev s_m_House_make : Stmt := inClass (top 29) 1
theorem sc_m_House_make : FnScope ["self", "kind", "size", "slot"] ["self", "kind", "size", "slot"] (defScope s_m_House_make) := fsk
abbrev s_m_House_names : Stmt := inClass (top 29) 2
theorem sc_m_House_names : FnScope ["self"] ["self"] (defScope s_m_House_names) := fsk
abbrev s_m_House_kind : Stmt := inClass (top 29) 3
theorem sc_m_House_kind : FnScope ["self", "name"] ["self", "name"] (defScope s_m_House_kind) := fsk
abbrev s_m_House_size : Stmt := inClass (top 29) 4
theorem sc_m_House_size : FnScope ["self", "name"] ["self", "name"] (defScope s_m_House_size) := fsk
abbrev s_m_House_field : Stmt := inClass (top 29) 6
theorem sc_m_House_field : FnScope ["self", "name", "at"] ["self", "name", "at"] (defScope s_m_House_field) := fsk
abbrev s_m_House_held : Stmt := inClass (top 29) 9
theorem sc_m_House_held : FnScope ["self", "slot"] ["self", "slot"] (defScope s_m_House_held) := fsk
abbrev s_m_House_has_room : Stmt := inClass (top 29) 15
theorem sc_m_House_has_room : FnScope ["self", "count"] ["self", "count"] (defScope s_m_House_has_room) := fsk
abbrev s_m_House_make_room : Stmt := inClass (top 29) 16
theorem sc_m_House_make_room : FnScope ["self", "count", "besides"] ["self", "count", "besides"] (defScope s_m_House_make_room) := fsk
abbrev s_m_House_build : Stmt := inClass (top 29) 17
theorem sc_m_House_build : FnScope ["self", "draft", "slot", "new_names", "name", "row"] ["self", "draft", "slot"] (defScope s_m_House_build) := fsk
abbrev s_m_House_check_slot : Stmt := inClass (top 29) 20
theorem sc_m_House_check_slot : FnScope ["self", "slot"] ["self", "slot"] (defScope s_m_House_check_slot) := fsk
abbrev s_m_House_check_box : Stmt := inClass (top 29) 22
theorem sc_m_House_check_box : FnScope ["self", "name"] ["self", "name"] (defScope s_m_House_check_box) := fsk
abbrev s_m_House_check_field : Stmt := inClass (top 29) 24
theorem sc_m_House_check_field : FnScope ["self", "name", "at"] ["self", "name", "at"] (defScope s_m_House_check_field) := fsk
abbrev s_f_read : Stmt := top 34
theorem sc_f_read : FnScope ["house", "note", "slot", "draft"] ["house", "note", "slot"] (defScope s_f_read) := fsk
abbrev s_f_draft_in : Stmt := top 35
theorem sc_f_draft_in : FnScope ["note", "lines"] ["note"] (defScope s_f_draft_in) := fsk
abbrev s_f_row_in : Stmt := top 36
theorem sc_f_row_in : FnScope ["line", "count", "words", "kind", "things"] ["line", "count"] (defScope s_f_row_in) := fsk
abbrev s_f_may_have : Stmt := top 37
theorem sc_f_may_have : FnScope ["kind", "size"] ["kind", "size"] (defScope s_f_may_have) := fsk
abbrev s_f_thing_in : Stmt := top 38
theorem sc_f_thing_in : FnScope ["word", "count"] ["word", "count"] (defScope s_f_thing_in) := fsk
abbrev s_f_place_in : Stmt := top 39
theorem sc_f_place_in : FnScope ["word", "count", "place"] ["word", "count"] (defScope s_f_place_in) := fsk
abbrev s_f_number_below_nought : Stmt := top 40
theorem sc_f_number_below_nought : FnScope ["word", "number"] ["word"] (defScope s_f_number_below_nought) := fsk
abbrev s_f_number_in : Stmt := top 41
theorem sc_f_number_in : FnScope ["word"] ["word"] (defScope s_f_number_in) := fsk
abbrev s_f_is_number : Stmt := top 42
theorem sc_f_is_number : FnScope ["word"] ["word"] (defScope s_f_is_number) := fsk
abbrev s_f_law_cell_at : Stmt := top 44
theorem sc_f_law_cell_at : FnScope ["script", "k"] ["script", "k"] (defScope s_f_law_cell_at) := fsk
abbrev s_f_law_whole : Stmt := top 46
theorem sc_f_law_whole : FnScope ["found"] ["found"] (defScope s_f_law_whole) := fsk
abbrev s_f_law_names : Stmt := top 47
theorem sc_f_law_names : FnScope ["found", "due", "k"] ["found", "due"] (defScope s_f_law_names) := fsk
abbrev s_f_law_same : Stmt := top 48
theorem sc_f_law_same : FnScope ["found", "due"] ["found", "due"] (defScope s_f_law_same) := fsk
abbrev s_f_law_as : Stmt := top 49
theorem sc_f_law_as : FnScope ["house", "kinds", "rows", "slots", "name", "at", "thing", "slot"] ["house", "kinds", "rows", "slots"] (defScope s_f_law_as) := fsk
abbrev s_f_law_alone : Stmt := top 50
theorem sc_f_law_alone : FnScope ["e", "found"] ["e"] (defScope s_f_law_alone) := fsk
abbrev s_f_law_line : Stmt := top 51
theorem sc_f_law_line : FnScope ["cell", "some"] ["cell"] (defScope s_f_law_line) := fsk
abbrev s_f_law_number : Stmt := top 52
theorem sc_f_law_number : FnScope ["word", "figures", "sign"] ["word"] (defScope s_f_law_number) := fsk
abbrev s_f_law_due : Stmt := top 53
theorem sc_f_law_due : FnScope ["word", "lines", "ahead", "place", "good", "number"] ["word", "lines", "ahead"] (defScope s_f_law_due) := fsk
abbrev s_f_law_row : Stmt := top 54
theorem sc_f_law_row : FnScope ["line", "lines", "ahead", "words", "row"] ["line", "lines", "ahead"] (defScope s_f_law_row) := fsk
abbrev s_f_law : Stmt := top 55
theorem sc_f_law : FnScope ["script", "lines", "house", "found", "e", "rows", "kinds", "fields", "ahead", "k"] ["script"] (defScope s_f_law) := fsk
section
variable {C : Addr}
theorem ok_m_House_check_slot {f : Addr} (F : Fun K "check_slot" "House.check_slot" s_m_House_check_slot f fd) (T : TX K mg C)  :
    FnOk P w K mg base CX0 (n + 1) f fd ["self", "slot"] (spCheckSlot C) := by
  refine F.ok sc_m_House_check_slot (by rintro _ _ _ _ ⟨_, _, _, _, rfl, _⟩; rfl) fun _ _ _ s H vs Q E hr h => ?_
  obtain ⟨p, A', S, i, rfl, hh, h0, h1, k⟩ := h
  have hu := hu_of hr
  refine ⟨_, (pss_one (ps_if (PW.pt (pw_or (pt_cmpR op_lt (pv 1) pe_int (nomark _)) (pw_or1 (pt_cmpR op_ge (pv 1) (pe_callB call_len_seq (by rfl) T.g_len PySem.boot_len (pa_cons (pe_fld (pv 0) rfl) pa_nil)) (nomark _))))) (pss_one ps_never) pss_nil)), ?_⟩
  obtain ⟨ws, hs, ht⟩ := hh.sl
  refine ⟨_, rfl, _, _, rfl, rfl, _, rfl, ?_⟩
  refine iteD (by omega) ?_
  refine ⟨_, rfl, _, rfl, p, C, A'.dx, _, _, rfl, hh.ob, T.cl, T.n_slots, hf_slots, A'.sl, ws, rfl, .inl (SqL.of hs), _, _, rfl, rfl, _, rfl, ?_⟩
  refine iteD (by rw [← pr_len ht]; omega) ?_
  exact k
theorem ok_m_House_check_box {f : Addr} (F : Fun K "check_box" "House.check_box" s_m_House_check_box f fd) (T : TX K mg C)  :
    FnOk P w K mg base CX0 (n + 1) f fd ["self", "name"] (spCheckBox C) := by
  refine F.ok sc_m_House_check_box (by rintro _ _ _ _ ⟨_, _, _, _, rfl, _⟩; rfl) fun _ _ _ s H vs Q E hr h => ?_
  obtain ⟨p, A', S, n, rfl, hh, hn, k⟩ := h
  have hu := hu_of hr
  refine ⟨_, (pss_one (ps_if (pt_cmp (pc_dnotin hu (pv 1) (pe_fld (pv 0) rfl))) (pss_one ps_never) pss_nil)), ?_⟩
  obtain ⟨b, hb, e⟩ := List.mem_map.mp hn
  obtain ⟨i, hi⟩ := List.getElem?_of_mem hb
  have hv := hh.kindAt hi
  rw [e] at hv
  refine ⟨_, rfl, _, rfl, p, C, A'.dx, _, _, rfl, hh.ob, T.cl, T.n_kinds, hf_kinds, A'.kd, _, rfl, DGet.k (k := Sum.inl n) hh.kd, _, rfl, ?_⟩
  rw [hv]
  exact iteF k
theorem ok_m_House_check_field {f : Addr} (F : Fun K "check_field" "House.check_field" s_m_House_check_field f fd) (T : TX K mg C)  :
    FnOk P w K mg base CX0 (n + 1) f fd ["self", "name", "at"] (spCheckField C) := by
  refine F.ok sc_m_House_check_field (by rintro _ _ _ _ ⟨_, _, _, _, _, _, rfl, _⟩; rfl) fun _ _ _ s H vs Q E hr h => ?_
  obtain ⟨p, A', S, i, b, at_, rfl, hh, hi, h0, h1, k⟩ := h
  have hu := hu_of hr
  refine ⟨_, (pss_one (ps_if (PW.pt (pw_or (pt_cmpR op_lt (pv 2) pe_int (nomark _)) (pw_or1 (pt_cmpR op_ge (pv 2) (pe_callB call_len_seq (by rfl) T.g_len PySem.boot_len (pa_cons (pe_dget hu (pe_fld (pv 0) rfl) (pv 1) (fun _ _ => rfl)) pa_nil)) (nomark _))))) (pss_one ps_never) pss_nil)), ?_⟩
  obtain ⟨a, ws, ha, hw, ht, hv⟩ := hh.rowAt hi
  refine ⟨_, rfl, _, _, rfl, rfl, _, rfl, ?_⟩
  refine iteD (by omega) ?_
  refine ⟨_, rfl, _, rfl, p, C, A'.dx, _, _, rfl, hh.ob, T.cl, T.n_fields, hf_fields, _, rfl, A'.fd, .ref a, rfl, ?_, a, ws, rfl, .inl (SqL.of hw), _, _, rfl, rfl, _, rfl, ?_⟩
  · rw [← hv]; exact DGet.k (k := Sum.inl b.name) hh.fd
  refine iteD (by rw [← pr_len ht]; omega) ?_
  exact k
theorem ok_m_House_names {f : Addr} (F : Fun K "names" "House.names" s_m_House_names f fd) (T : TX K mg C)  :
    FnOk P w K mg base CX0 (n + 1) f fd ["self"] (spNames C) := by
  refine F.ok sc_m_House_names (by rintro _ _ _ _ ⟨_, _, _, rfl, _⟩; rfl) fun _ _ _ s H vs Q E hr h => ?_
  obtain ⟨p, A', S, rfl, hh, h64, k⟩ := h
  have hu := hu_of hr
  refine ⟨_, (pss_one (ps_ret (pe_callB (call_sortedD hr.hd) (by rfl) T.g_sorted PyProof.Rows.boot_sorted (pa_cons (pe_fld (pv 0) rfl) pa_nil)))), ?_⟩
  refine ⟨_, rfl, p, C, A'.dx, _, _, rfl, hh.ob, T.cl, T.n_kinds, hf_kinds, A'.kd, _, names S, rfl, hh.kd, kindsD_keys _, by simpa [names] using h64, fun l ns' hl hp hs => ?_⟩
  rw [perm_asc hp hs hh.asc]
  exact k l hl
theorem ok_m_House_kind {f : Addr} (F : Fun K "kind" "House.kind" s_m_House_kind f fd) (T : TX K mg C) (M_check_box : MethOk P w K mg base C n "check_box" ["self", "name"] (spCheckBox C) [[]]) :
    FnOk P w K mg base CX0 (n + 1) f fd ["self", "name"] (spKind C) := by
  refine F.ok sc_m_House_kind (by rintro _ _ _ _ ⟨_, _, _, _, _, rfl, _⟩; rfl) fun _ _ _ s H vs Q E hr h => ?_
  obtain ⟨p, A', S, i, b, rfl, hh, hi, k⟩ := h
  have hu := hu_of hr
  refine ⟨_, (pss_cons (ps_expr (qm M_check_box (pv 0) T.cl hr (pa_cons (pv 1) pa_nil)))
    (pss_one (ps_ret (pe_dget hu (pe_fld (pv 0) rfl) (pv 1) (fun _ _ => rfl))))), ?_⟩
  refine ⟨_, rfl, p, A'.dx, _, rfl, hh.ob, hf_none, _, rfl, p, A', S, b.name, rfl, hh, in_names hi, ?_⟩
  refine ⟨_, rfl, p, C, A'.dx, _, _, rfl, hh.ob, T.cl, T.n_kinds, hf_kinds, _, rfl, A'.kd, .str b.kind, rfl, ?_, k⟩
  rw [← hh.kindAt hi]
  exact DGet.k (k := Sum.inl b.name) hh.kd
theorem ok_m_House_size {f : Addr} (F : Fun K "size" "House.size" s_m_House_size f fd) (T : TX K mg C) (M_check_box : MethOk P w K mg base C n "check_box" ["self", "name"] (spCheckBox C) [[]]) :
    FnOk P w K mg base CX0 (n + 1) f fd ["self", "name"] (spSize C) := by
  refine F.ok sc_m_House_size (by rintro _ _ _ _ ⟨_, _, _, _, _, rfl, _⟩; rfl) fun _ _ _ s H vs Q E hr h => ?_
  obtain ⟨p, A', S, i, b, rfl, hh, hi, k⟩ := h
  have hu := hu_of hr
  refine ⟨_, (pss_cons (ps_expr (qm M_check_box (pv 0) T.cl hr (pa_cons (pv 1) pa_nil)))
    (pss_one (ps_ret (pe_callB call_len_seq (by rfl) T.g_len PySem.boot_len (pa_cons (pe_dget hu (pe_fld (pv 0) rfl) (pv 1) (fun _ _ => rfl)) pa_nil))))), ?_⟩
  obtain ⟨a, ws, ha, hw, ht, hv⟩ := hh.rowAt hi
  refine ⟨_, rfl, p, A'.dx, _, rfl, hh.ob, hf_none, _, rfl, p, A', S, b.name, rfl, hh, in_names hi, ?_⟩
  refine ⟨_, rfl, p, C, A'.dx, _, _, rfl, hh.ob, T.cl, T.n_fields, hf_fields, _, rfl, A'.fd, .ref a, rfl, ?_, a, ws, rfl, .inl (SqL.of hw), ?_⟩
  · rw [← hv]; exact DGet.k (k := Sum.inl b.name) hh.fd
  · rw [← pr_len ht]; exact k
theorem ok_m_House_field {f : Addr} (F : Fun K "field" "House.field" s_m_House_field f fd) (T : TX K mg C) (M_check_box : MethOk P w K mg base C n "check_box" ["self", "name"] (spCheckBox C) [[]])
    (M_check_field : MethOk P w K mg base C n "check_field" ["self", "name", "at"] (spCheckField C) [[]]) :
    FnOk P w K mg base CX0 (n + 1) f fd ["self", "name", "at"] (spField C) := by
  refine F.ok sc_m_House_field (by rintro _ _ _ _ ⟨_, _, _, _, _, _, _, rfl, _⟩; rfl) fun _ _ _ s H vs Q E hr h => ?_
  obtain ⟨p, A', S, i, b, j, t, rfl, hh, hi, hj, k⟩ := h
  have hu := hu_of hr
  refine ⟨_, (pss_cons (ps_expr (qm M_check_box (pv 0) T.cl hr (pa_cons (pv 1) pa_nil)))
    (pss_cons (ps_expr (qm M_check_field (pv 0) T.cl hr (pa_cons (pv 1) (pa_cons (pv 2) pa_nil))))
    (pss_one (ps_ret (pe_ix ix_list (pe_dget hu (pe_fld (pv 0) rfl) (pv 1) (fun _ _ => rfl)) (pv 2) (fun _ _ => rfl)))))), ?_⟩
  obtain ⟨a, ws, ha, hw, ht, hv⟩ := hh.rowAt hi
  obtain ⟨v, hv2, tv⟩ := pr_get ht hj
  have hlt := (List.getElem?_eq_some_iff.mp hj).1
  refine ⟨_, rfl, p, A'.dx, _, rfl, hh.ob, hf_none, _, rfl, p, A', S, b.name, rfl, hh, in_names hi, ?_⟩
  refine ⟨_, rfl, p, A'.dx, _, rfl, hh.ob, hf_none, _, rfl, _, rfl, p, A', S, i, b, j, rfl, hh, hi, by omega, by omega, ?_⟩
  refine ⟨_, rfl, p, C, A'.dx, _, _, rfl, hh.ob, T.cl, T.n_fields, hf_fields, _, rfl, A'.fd, .ref a, rfl, ?_, _, rfl, a, ws, j, v, rfl, rfl, SqL.of hw, atI_nat hv2, k v tv⟩
  rw [← hv]; exact DGet.k (k := Sum.inl b.name) hh.fd
theorem ok_m_House_held {f : Addr} (F : Fun K "held" "House.held" s_m_House_held f fd) (T : TX K mg C) (M_check_slot : MethOk P w K mg base C n "check_slot" ["self", "slot"] (spCheckSlot C) [[]]) :
    FnOk P w K mg base CX0 (n + 1) f fd ["self", "slot"] (spHeld C) := by
  refine F.ok sc_m_House_held (by rintro _ _ _ _ ⟨_, _, _, _, _, rfl, _⟩; rfl) fun _ _ _ s H vs Q E hr h => ?_
  obtain ⟨p, A', S, j, t, rfl, hh, hj, k⟩ := h
  have hu := hu_of hr
  refine ⟨_, (pss_cons (ps_expr (qm M_check_slot (pv 0) T.cl hr (pa_cons (pv 1) pa_nil)))
    (pss_one (ps_ret (pe_ix ix_list (pe_fld (pv 0) rfl) (pv 1) (fun _ _ => rfl))))), ?_⟩
  obtain ⟨ws, hw, ht⟩ := hh.sl
  obtain ⟨v, hv2, tv⟩ := pr_get ht hj
  have hlt := (List.getElem?_eq_some_iff.mp hj).1
  refine ⟨_, rfl, p, A'.dx, _, rfl, hh.ob, hf_none, _, rfl, p, A', S, j, rfl, hh, by omega, by omega, ?_⟩
  exact ⟨_, rfl, p, C, A'.dx, _, _, rfl, hh.ob, T.cl, T.n_slots, hf_slots, _, rfl, A'.sl, ws, j, v, rfl, rfl, SqL.of hw, atI_nat hv2, k v tv⟩
theorem ok_f_box_thing {f : Addr} (F : Fun K "box_thing" "box_thing" s_f_box_thing f fd) (T : TX K mg C)  :
    FnOk P w K mg base CX0 (n + 1) f fd ["name"] (spBoxThing) := by
  refine F.ok sc_f_box_thing (by rintro _ _ _ _ ⟨_, rfl, _⟩; rfl) fun _ _ _ s H vs Q E hr h => ?_
  obtain ⟨n, rfl, k⟩ := h
  have hu := hu_of hr
  refine ⟨_, (pss_one (ps_ret (pe_tup (pa_cons pe_str (pa_cons (pv 0) pa_nil))))), ?_⟩
  exact ⟨_, rfl, zl, fun a ha => k a ha⟩
theorem ok_f_box_name {f : Addr} (F : Fun K "box_name" "box_name" s_f_box_name f fd) (T : TX K mg C)  :
    FnOk P w K mg base CX0 (n + 1) f fd ["thing"] (spBoxName) := by
  refine F.ok sc_f_box_name (by rintro _ _ _ _ ⟨_, _, rfl, _⟩; rfl) fun _ _ _ s H vs Q E hr h => ?_
  obtain ⟨v, t, rfl, tv, k⟩ := h
  have hu := hu_of hr
  refine ⟨_, (pss_cons (ps_if (pt_val (pe_callB call_isi (by rfl) T.g_isi PyProof.Rows.boot_isinstance (pa_cons (pv 0) (pa_cons (pe_bltn (v := .ty "tuple") (by rfl) T.g_tuple PyProof.Rows.boot_tuple rfl) pa_nil)))) (pss_one (ps_ret (pe_ix ix_tup (pv 0) pe_int (fun _ _ => rfl)))) pss_nil)
    (pss_one (ps_ret pe_non))), ?_⟩
  cases t with
  | non =>
    cases (show v = .non from tv)
    exact ⟨_, rfl, _, "tuple", _, false, rfl, .non, sub_nt K, _, rfl, iteF k⟩
  | num i =>
    cases (show v = .int i from tv)
    exact ⟨_, rfl, _, "tuple", _, false, rfl, .int i, sub_it K, _, rfl, iteF k⟩
  | box n =>
    obtain ⟨a, rfl, q⟩ := tv
    exact ⟨_, rfl, _, "tuple", _, true, rfl, .tup q, kit_same _ _, _, rfl, iteT ⟨_, rfl, a, _, 1, .int n, rfl, rfl, SqT.of q, rfl, k⟩⟩
theorem ok_f_renamed {f : Addr} (F : Fun K "renamed" "renamed" s_f_renamed f fd) (T : TX K mg C) (D_box_name : DefOk P w K mg base n "box_name" ["thing"] (spBoxName) [[]])
    (D_box_thing : DefOk P w K mg base n "box_thing" ["name"] (spBoxThing) [[]]) :
    FnOk P w K mg base CX0 (n + 1) f fd ["thing", "new_names"] (spRenamed) := by
  refine F.ok sc_f_renamed (by rintro _ _ _ _ ⟨_, _, _, _, rfl, _⟩; rfl) fun _ _ _ s H vs Q E hr h => ?_
  obtain ⟨v, t, a, ns, rfl, tv, ha, k⟩ := h
  have hu := hu_of hr
  refine ⟨_, (pss_cons (ps_set (i := 2) sc_f_renamed.nd rfl (Or.inl rfl) (qc D_box_name hr (pa_cons (pv 0) pa_nil)))
    (pss_cons (ps_if (pt_cmp (pc_isN (pv 2))) (pss_one (ps_ret (pv 0))) pss_nil)
    (pss_one (ps_ret (qc D_box_thing hr (pa_cons (pe_ix ix_list (pv 1) (pv 2) (fun _ _ => rfl)) pa_nil)))))), ?_⟩
  refine ⟨_, rfl, v, t, rfl, tv, ?_⟩
  cases t with
  | non => exact ⟨_, rfl, _, rfl, iteT ⟨_, rfl, k⟩⟩
  | num i => exact ⟨_, rfl, _, rfl, iteT ⟨_, rfl, k⟩⟩
  | box n =>
    obtain ⟨j, m, rfl, hj, k⟩ := k
    exact ⟨_, rfl, _, rfl, iteF ⟨_, rfl, _, rfl, a, _, j, .int m, rfl, rfl, SqL.of ha, atI_nat (by rw [List.getElem?_map, hj]; rfl), m, rfl, k⟩⟩
theorem ok_m_House_has_room {f : Addr} (F : Fun K "has_room" "House.has_room" s_m_House_has_room f fd) (T : TX K mg C)  :
    FnOk P w K mg base CX0 (n + 1) f fd ["self", "count"] (spHasRoom C) := by
  refine F.ok sc_m_House_has_room (by rintro _ _ _ _ ⟨_, _, _, _, rfl, _⟩; rfl) fun _ _ _ s H vs Q E hr h => ?_
  obtain ⟨p, A', S, n, rfl, hh, k⟩ := h
  have hu := hu_of hr
  refine ⟨_, (pss_one (ps_ret (pe_cmpR op_le (pe_op op_add (pe_callB call_lenD (by rfl) T.g_len PySem.boot_len (pa_cons (pe_fld (pv 0) rfl) pa_nil)) (pv 1)) (pe_fld (pv 0) rfl) (nomark _)))), ?_⟩
  refine ⟨_, rfl, p, C, A'.dx, _, _, rfl, hh.ob, T.cl, T.n_kinds, hf_kinds, A'.kd, _, rfl, hh.kd, _, rfl, _, _, rfl, rfl, _, rfl, p, C, A'.dx, _, _, rfl, hh.ob, T.cl, T.n_room, hf_room, _, _, rfl, rfl, ?_⟩
  have e : (kindsD S.boxes).length = S.boxes.length := by simp [kindsD]
  rw [e]
  exact k
theorem ok_m_House_make_room {f : Addr} {ds : List Value} (F : FunD K "make_room" "House.make_room" s_m_House_make_room f fd ds) (T : TX K mg C) (M_has_room : MethOk P w K mg base C n "has_room" ["self", "count"] (spHasRoom C) [[]]) :
    FnOk P w K mg base CX0 (n + 1) f fd ["self", "count", "besides"] (spMakeRoom0 C) := by
  refine F.ok sc_m_House_make_room (by rintro _ _ _ _ ⟨_, _, _, _, _, rfl, _⟩; rfl) fun _ _ _ s H vs Q E hr h => ?_
  obtain ⟨p, A', S, n, v, rfl, hh, hn, k⟩ := h
  have hu := hu_of hr
  refine ⟨_, (pss_one (ps_if (pt_not (pt_val (qm M_has_room (pv 0) T.cl hr (pa_cons (pv 1) pa_nil)))) pss_never pss_nil)), ?_⟩
  refine ⟨_, rfl, p, A'.dx, _, rfl, hh.ob, hf_none, _, rfl, p, A', S, n, rfl, hh, _, rfl, ?_⟩
  rw [decide_eq_true hn]
  exact iteF k
theorem bs_m_House_build_0 : BlkScope (defScope s_m_House_build) ["self", "draft", "slot", "new_names", "name", "row"] (compScope ((asgVal (stAt (defBody s_m_House_build) 1)))) "place" ["self"] [0] :=
  bsk
theorem bs_m_House_build_1 : BlkScope (defScope s_m_House_build) ["self", "draft", "slot", "new_names", "name", "row"] (compScope ((asgVal (stAt (forBody (stAt (defBody s_m_House_build) 2)) 1)))) "thing" ["new_names"] [3] :=
  bsk
theorem ok_m_House_build {f : Addr} (F : Fun K "build" "House.build" s_m_House_build f fd) (T : TX K mg C) (gz : mg "zip" = none) (M_has_room : MethOk P w K mg base C n "has_room" ["self", "count"] (spHasRoom C) [[]])
    (D_renamed : DefOk P w K mg base n "renamed" ["thing", "new_names"] (spRenamed) [[]])
    (D_box_thing : DefOk P w K mg base n "box_thing" ["name"] (spBoxThing) [[]]) :
    FnOk P w K mg base CX0 (n + 1) f fd ["self", "draft", "slot"] (spBuild1 C) := by
  refine F.ok sc_m_House_build (by rintro _ _ _ _ ⟨_, _, _, _, _, _, _, _, _, rfl, _⟩; rfl) fun _ _ _ s H vs Q E hr h => ?_
  obtain ⟨p, A', S, kind, n, slot, ad, at_, al, rfl, hh, had, hat, hal, hn, hb, hroom, hs, k⟩ := h
  have hu := hu_of hr
  refine ⟨_, (pss_cons (ps_if (pt_not (pt_val (qm M_has_room (pv 0) T.cl hr (pa_cons (pe_callB call_len_seq (by rfl) T.g_len PySem.boot_len (pa_cons (pv 1) pa_nil)) pa_nil)))) pss_never pss_nil)
    (pss_cons (ps_set (i := 3) sc_m_House_build.nd rfl (Or.inr rfl) (pe_comp bs_m_House_build_0 rfl (pi_range1 (by rfl) T.g_range (pa_cons (pe_callB call_len_seq (by rfl) T.g_len PySem.boot_len (pa_cons (pv 1) pa_nil)) pa_nil)) (fun _ _ _ _ => pifs_nil) (fun _ _ _ _ => (pe_op op_add (pe_op op_add (pek_fld (K' := K) rfl (pv 1) rfl) pe_int) (pv 0)))))
    (pss_cons (ps_for PassesOwn.never rfl (pi_zip (by rfl) gz (pa_cons (pv 3) (pa_cons (pv 1) pa_nil))) (pg_pair rfl sc_m_House_build.nd (i := 4) (j := 5) rfl rfl (Or.inl rfl) (Or.inl rfl))
    (pss_cons (ps_dput hu (pe_fld (pv 0) rfl) (pv 4) (pe_ix ix_tup (pv 5) pe_int (fun _ _ => rfl)) rfl)
    (pss_one (ps_dput hu (pe_fld (pv 0) rfl) (pv 4) (pe_comp bs_m_House_build_1 rfl (pi_list (pe_ix ix_tup (pv 5) pe_int (fun _ _ => rfl))) (fun _ _ _ _ => pifs_nil) (fun _ _ _ _ => (qc D_renamed hr (pa_cons (pv 0) (pa_cons (pv 1) pa_nil))))) rfl))))
    (pss_cons (ps_fld (pv 0) (pe_ix ix_list (pv 3) (pe_un un_neg pe_int) (fun _ _ => rfl)) rfl)
    (pss_cons (ps_asg (qc D_box_thing hr (pa_cons (pe_ix ix_list (pv 3) pe_int (fun _ _ => rfl)) pa_nil)) (pg_sub (pe_fld (pv 0) rfl) (pv 2) set_list))
    (pss_one (ps_ret (pe_ix ix_list (pv 3) pe_int (fun _ _ => rfl))))))))), ?_⟩
  have ne1 : p ≠ A'.kd := ne_of hh.ob hh.kd (by intro z; cases z)
  have ne2 : p ≠ A'.fd := ne_of hh.ob hh.fd (by intro z; cases z)
  have neL : ∀ b ∈ A'.lists, b ≠ p ∧ b ≠ A'.kd ∧ b ≠ A'.fd := fun b hb => by
    obtain ⟨vs, q⟩ := hh.isL b hb
    exact ⟨ne_of q hh.ob (by intro z; cases z), ne_of q hh.kd (by intro z; cases z), ne_of q hh.fd (by intro z; cases z)⟩
  have len : (hFlds A' S).length < 1000 := by show 7 < 1000; decide
  have kl : (kindsD S.boxes).length = S.boxes.length := by simp [kindsD]
  have fl : (fieldsD S.boxes A'.fl).length = S.boxes.length := by simp [fieldsD, pr_len hh.fl]
  -- if not self.has_room(len(draft))
  refine ⟨_, rfl, p, A'.dx, _, rfl, hh.ob, hf_none, _, rfl, ad, _, rfl, .inl (SqL.of had), p, A', S, _, rfl, hh, _, rfl, ?_⟩
  rw [decide_eq_true (by show (S.boxes.length : Int) + (([V.ref at_].length : Nat) : Int) ≤ S.room; simp; omega)]
  refine iteF ?_
  -- new_names
  refine ⟨_, rfl, ad, _, rfl, .inl (SqL.of had), 1, rfl, by decide, by decide, ?_⟩
  refine comp_range (lo := 0) (n := 1) (fun i ys H' => H' = H ∧ ys = (intsUp (S.last + 1) i).map V.int) ⟨rfl, rfl⟩ ?_ (len_small (by omega)) ?_ ?_
  · rintro i ys H' ⟨_, rfl⟩
    rw [List.length_map, intsUp_length]; exact Nat.le_refl _
  · rintro i ys H' hi ⟨rfl, rfl⟩
    dsimp only [tNoIf]
    refine iteT ⟨_, rfl, p, C, A'.dx, _, _, rfl, hh.ob, T.cl, T.n_last, hf_last, _, _, rfl, rfl, _, rfl, _, _, rfl, rfl, rfl, ?_⟩
    rw [intsUp_snoc, List.map_append]
    show _ = _ ++ [V.int (S.last + 1 + (i : Int))]
    rw [Int.zero_add]
  · rintro ys H' ⟨rfl, rfl⟩ ln hln
    have e1 : (intsUp (S.last + 1) 1).map V.int = [V.int (S.last + 1)] := by simp [intsUp]
    rw [e1]
    have d1 : (upd H' ln (.lst [V.int (S.last + 1)])) ln = some (.lst [V.int (S.last + 1)]) := upd_same
    generalize eH1 : upd H' ln (.lst [V.int (S.last + 1)]) = H1 at d1
    have s1 : Same H' H1 := by rw [← eH1]; exact Same.new hln
    have fresh : ¬ (S.last + 1) ∈ S.boxes.map (·.name) := fun m => by
      obtain ⟨b, hb, e⟩ := List.mem_map.mp m
      have := hh.top b hb
      omega
    have pk : putK (kindsD S.boxes) (Sum.inl (S.last + 1) : Key) (V.str kind) = kindsD S.boxes ++ [((Sum.inl (S.last + 1) : Key), V.str kind)] := putK_new _ (hh.noName fresh)
    have pf : ∀ l, putK (fieldsD S.boxes A'.fl) (Sum.inl (S.last + 1) : Key) (V.ref l) = fieldsD S.boxes A'.fl ++ [((Sum.inl (S.last + 1) : Key), V.ref l)] := fun l => putK_new _ (by
      refine valV_out ?_
      rw [fieldsD_keys (pr_len hh.fl)]
      intro m
      obtain ⟨b, hb, q⟩ := List.mem_map.mp m
      rw [Sum.inl.inj q] at hb
      exact fresh hb)
    -- the loop
    refine ⟨_, rfl, _, rfl, ln, ad, _, _, rfl, d1, s1 _ _ had, ?_⟩
    refine for_zip (xs := [V.int (S.last + 1)]) (ys := [V.ref at_]) (fun i σ H2 => ∃ v_name v_row, σ = [some (.ref p), some (.ref ad), some (.int slot), some (.ref ln), v_name, v_row] ∧ H2 ln = some (.lst [V.int (S.last + 1)]) ∧ H2 ad = some (.lst [V.ref at_]) ∧
      ((i = 0 ∧ H2 = H1) ∨ (i = 1 ∧ ∃ l, H' l = none ∧ H2 p = some (.ins C A'.dx (hFlds A' S)) ∧ H2 A'.kd = some (.dK (kindsD S.boxes ++ [((Sum.inl (S.last + 1) : Key), V.str kind)])) ∧
        H2 A'.fd = some (.dK (fieldsD S.boxes A'.fl ++ [((Sum.inl (S.last + 1) : Key), V.ref l)])) ∧ H2 l = some (.lst (List.replicate n .non)) ∧ ∀ b o, H' b = some o → b ≠ A'.kd → b ≠ A'.fd → H2 b = some o))) rfl
      ⟨_, _, rfl, d1, s1 _ _ had, .inl ⟨rfl, rfl⟩⟩ (fun i σ H2 _ ⟨_, _, _, a1, a2, _⟩ => ⟨a1, a2⟩) ?_ ?_
    · rintro i x y σ H2 pp hx hy ⟨v1, v2, rfl, a1, a2, ⟨rfl, rfl⟩ | ⟨rfl, _⟩⟩ hpp
      · cases hx
        cases hy
        refine ⟨pp, _, _, rfl, upd_same, ?_⟩
        have s2 : Same H' (upd H2 pp (.tup [V.int (S.last + 1), V.ref at_])) := s1.trans (Same.new hpp)
        have f2 : (upd H2 pp (.tup [V.int (S.last + 1), V.ref at_])) ln = some (.lst [V.int (S.last + 1)]) := kp_n d1 hpp
        generalize upd H2 pp (.tup [V.int (S.last + 1), V.ref at_]) = H3 at s2 f2 ⊢
        have hh3 := hh.same s2
        -- self.kinds[name] = row[0]
        refine ⟨_, rfl, at_, _, 0, _, rfl, rfl, SqT.of (s2 _ _ hat), rfl, _, rfl, p, C, A'.dx, _, _, rfl, hh3.ob, T.cl, T.n_kinds, hf_kinds, _, rfl, A'.kd, _, rfl, DPut.k (k := Sum.inl (S.last + 1)) hh3.kd (small1000 (by omega)), ?_⟩
        rw [pk]
        have k4 : ∀ b o, H3 b = some o → b ≠ A'.kd → (upd H3 A'.kd (.dK (kindsD S.boxes ++ [((Sum.inl (S.last + 1) : Key), V.str kind)]))) b = some o := fun b o q nb => by rw [upd_ne nb]; exact q
        have e4 : (upd H3 A'.kd (.dK (kindsD S.boxes ++ [((Sum.inl (S.last + 1) : Key), V.str kind)]))) A'.kd = some (.dK (kindsD S.boxes ++ [((Sum.inl (S.last + 1) : Key), V.str kind)])) := upd_same
        have u4 : ∀ b, (upd H3 A'.kd (.dK (kindsD S.boxes ++ [((Sum.inl (S.last + 1) : Key), V.str kind)]))) b = none → H3 b = none := fun b z => un_p z
        generalize upd H3 A'.kd (.dK (kindsD S.boxes ++ [((Sum.inl (S.last + 1) : Key), V.str kind)])) = H4 at k4 e4 u4 ⊢
        have hat4 := k4 _ _ (s2 _ _ hat) (ne_of (s2 _ _ hat) hh3.kd (by intro z; cases z))
        have hal4 := k4 _ _ (s2 _ _ hal) (ne_of (s2 _ _ hal) hh3.kd (by intro z; cases z))
        have hln4 := k4 _ _ f2 (ne_of f2 hh3.kd (by intro z; cases z))
        have had4 := k4 _ _ (s2 _ _ had) (ne_of (s2 _ _ had) hh3.kd (by intro z; cases z))
        have hp4 := k4 _ _ hh3.ob ne1
        have hf4 := k4 _ _ hh3.fd hh3.kf.symm
        -- self.fields[name] = [renamed(thing, new_names) for thing in row[1]]
        refine ⟨_, rfl, at_, _, 1, _, rfl, rfl, SqT.of hat4, rfl, al, rfl, ⟨_, SqL.of hal4⟩, ?_⟩
        refine comp_list (xs := List.replicate n V.non) (fun j ys H5 => H5 = H4 ∧ ys = List.replicate j V.non) ⟨rfl, rfl⟩ ?_ (len_small (by simp; omega)) ?_ ?_ ?_
        · rintro j ys H5 ⟨_, rfl⟩
          simp
        · rintro j ys H5 _ ⟨rfl, _⟩
          exact SqL.of hal4
        · rintro j x ys H5 hx ⟨rfl, rfl⟩
          dsimp only [tNoIf]
          have ex : x = .non := List.eq_of_mem_replicate (List.mem_of_getElem? hx)
          subst ex
          refine iteT ⟨_, rfl, _, rfl, V.non, LW.T.non, ln, [S.last + 1], rfl, rfl, hln4, rfl, ?_⟩
          rw [List.replicate_succ']
        · rintro ys H5 ⟨rfl, rfl⟩ l hl
          rw [List.length_replicate]
          have nl := s2.free (u4 l hl)
          have lf : l ≠ A'.fd := (ne_of_none hh.fd nl).symm
          refine ⟨_, rfl, p, C, A'.dx, _, _, rfl, kp_n hp4 hl, T.cl, T.n_fields, hf_fields, _, rfl, A'.fd, _, rfl, DPut.k (kvs := fieldsD S.boxes A'.fl) (k := Sum.inl (S.last + 1)) (kp_n hf4 hl) (small1000 (by omega)), ?_⟩
          rw [pf]
          have up : ∀ {b o}, H5 b = some o → b ≠ A'.fd → (upd (upd H5 l (.lst (List.replicate n V.non))) A'.fd (.dK (fieldsD S.boxes A'.fl ++ [((Sum.inl (S.last + 1) : Key), V.ref l)]))) b = some o := fun q nb => by rw [upd_ne nb]; exact kp_n q hl
          refine ⟨_, _, rfl, up hln4 (ne_of hln4 hf4 (by intro z; cases z)), up had4 (ne_of had4 hf4 (by intro z; cases z)), .inr ⟨rfl, l, nl, up hp4 ne2, up e4 hh.kf, upd_same, by rw [upd_ne lf]; exact upd_same, fun b o q n1 n2 => up (k4 _ _ (s2 _ _ q) n1) n2⟩⟩
      · simp at hx
    · rintro σ H2 ⟨v1, v2, rfl, a1, a2, ⟨z, _⟩ | ⟨_, l, nl, b1, b2, b3, b4, b5⟩⟩
      · cases z
      -- self.last_name = new_names[-1]
      refine ⟨_, rfl, _, rfl, ln, _, -1, _, rfl, rfl, SqL.of a1, rfl, _, rfl, p, C, A'.dx, _, rfl, b1, T.cl, T.n_last, len, ?_⟩
      rw [hFlds_put]
      have nlp : l ≠ p := (ne_of_none hh.ob nl).symm
      have nll : ∀ b ∈ A'.lists, b ≠ l := fun b hb => by
        obtain ⟨vs, q⟩ := hh.isL b hb
        exact ne_of_none q nl
      have hh3 : HouseAt C (upd H2 p (.ins C A'.dx (hFlds A' { S with last := S.last + 1 }))) p { A' with fl := A'.fl ++ [l] } (S.built kind n) := by
        refine hh.built (l := l) upd_same (by rw [upd_ne ne1.symm]; exact b2) (by rw [upd_ne ne2.symm]; exact b3) (by rw [upd_ne nlp]; exact b4) (fun z => nll l z rfl) (fun b hb => ?_) fun b xs q => ?_
        · obtain ⟨a1, a2, a3⟩ := neL b hb
          obtain ⟨vs, q⟩ := hh.isL b hb
          rw [upd_ne a1, b5 _ _ q a2 a3, q]
        · rw [upd_ne (ne_of q hh.ob (by intro z; cases z))]
          exact b5 _ _ q (ne_of q hh.kd (by intro z; cases z)) (ne_of q hh.fd (by intro z; cases z))
      have a3 : (upd H2 p (.ins C A'.dx (hFlds A' { S with last := S.last + 1 }))) ln = some (.lst [V.int (S.last + 1)]) := by rw [upd_ne (ne_of a1 b1 (by intro z; cases z))]; exact a1
      have b6 : ∀ b o, H' b = some o → b ≠ p → b ≠ A'.kd → b ≠ A'.fd → (upd H2 p (.ins C A'.dx (hFlds A' { S with last := S.last + 1 }))) b = some o := fun b o q n0 n1 n2 => by rw [upd_ne n0]; exact b5 b o q n1 n2
      generalize upd H2 p (.ins C A'.dx (hFlds A' { S with last := S.last + 1 })) = H3 at hh3 a3 b6 ⊢
      -- self.slots[slot] = box_thing(new_names[0])
      refine ⟨_, rfl, ln, _, 0, _, rfl, rfl, SqL.of a3, rfl, S.last + 1, rfl, fun a ha => ?_⟩
      have hh4 := hh3.new (o := .tup [.str "box", .int (S.last + 1)]) ha
      obtain ⟨ws, hw, ht⟩ := hh4.sl
      have hl : ws.length = S.slots.length := (pr_len ht).symm
      refine ⟨_, rfl, p, C, A'.dx, _, _, rfl, hh4.ob, T.cl, T.n_slots, hf_slots, _, rfl, A'.sl, ws, slot, slot, rfl, rfl, hw, ixN_nat (by omega), ?_⟩
      have nls : ln ≠ A'.sl := fun e => by
        obtain ⟨vs, q⟩ := hh.isL A'.sl (by simp [HA.lists])
        rw [← e, hln] at q; cases q
      refine ⟨_, rfl, ln, _, 0, _, rfl, rfl, SqL.of (by rw [upd_ne nls]; exact kp_n a3 ha), rfl, ?_⟩
      have hh5 := hh4.setSlot (j := slot) (t := .box (S.last + 1)) (v := .ref a) hw ht ⟨a, rfl, upd_same⟩
      refine k { A' with fl := A'.fl ++ [l] } _ hh5 (fun b o q nb => ?_) (fun b xs q => ?_) (fun b hb => ?_)
      · have nb : b ≠ p ∧ b ≠ A'.kd ∧ b ≠ A'.fd ∧ b ≠ A'.sl := by simp [HA.foot, HA.lists] at nb; exact ⟨nb.1, nb.2.1, nb.2.2.1, nb.2.2.2.1⟩
        rw [upd_ne nb.2.2.2]
        exact kp_n (b6 b o q nb.1 nb.2.1 nb.2.2.1) ha
      · have q3 := b6 b _ q (ne_of q hh.ob (by intro z; cases z)) (ne_of q hh.kd (by intro z; cases z)) (ne_of q hh.fd (by intro z; cases z))
        have q4 := kp_n (o := .tup [.str "box", .int (S.last + 1)]) q3 ha
        rw [upd_ne (ne_of q4 hw (by intro z; cases z))]
        exact q4
      · have hb : b = l ∨ b ∈ A'.foot p := by
          simp only [HA.foot, HA.lists, List.mem_cons, List.mem_append, List.not_mem_nil, or_false] at hb ⊢
          rcases hb with h | h | h | h | h | h | (h | h) | h | h <;> simp [h]
        rcases hb with e | e
        · right; rw [e]; exact nl
        · exact .inl e
theorem ok_m_House_make {f : Addr} {ds : List Value} (F : FunD K "make" "House.make" s_m_House_make f fd ds) (T : TX K mg C) {aF : Addr} (hF : mg "FIXED_SIZES" = some (.ref aF)) (KD : KDict P w K aF fixed) (M_check_slot : MethOk P w K mg base C n "check_slot" ["self", "slot"] (spCheckSlot C) [[]])
    (M_make_room : MethOk P w K mg base C n "make_room" ["self", "count", "besides"] (spMakeRoom0 C) [[], [.none]])
    (M_build : MethOk P w K mg base C n "build" ["self", "draft", "slot"] (spBuild1 C) [[]]) :
    FnOk P w K mg base CX0 (n + 1) f fd ["self", "kind", "size", "slot"] (spMake0 C) := by
  obtain ⟨f_make_room, fd_make_room, m_make_room, G_make_room, b_make_room⟩ := M_make_room
  refine F.ok sc_m_House_make (by rintro _ _ _ _ ⟨_, _, _, _, _, _, rfl, _⟩; rfl) fun _ _ _ s H vs Q E hr h => ?_
  obtain ⟨p, A', S, kind, size, slot, rfl, hh, h0, h1, hb, hroom, hs, k⟩ := h
  have hu := hu_of hr
  refine ⟨_, (pss_cons (ps_expr (qm M_check_slot (pv 0) T.cl hr (pa_cons (pv 3) pa_nil)))
    (pss_cons (ps_expr (pe_meth (pv 0) T.cl m_make_room G_make_room hr (b_make_room [.none] (by simp)) vals_n pass0 (pa_cons pe_int pa_nil)))
    (pss_one (ps_ret (qm M_build (pv 0) T.cl hr (@pa_cons _ _ _ _ _ (pe_lst (@pa_cons _ _ _ _ _ (pe_tup (@pa_cons _ _ _ _ _ (pv 1) (@pa_cons _ _ _ _ _ (pe_op op_rep (pe_lst (pa_cons pe_non pa_nil)) (pe_kget2 KD (by rfl) hF (pv 1) (pv 2) ⟨rfl, rfl, rfl, rfl⟩)) pa_nil rfl) rfl)) pa_nil rfl)) (pa_cons (pv 3) pa_nil) rfl)))))), ?_⟩
  refine ⟨_, rfl, p, A'.dx, _, rfl, hh.ob, hf_none, _, rfl, p, A', S, slot, rfl, hh, by omega, by omega, ?_⟩
  refine ⟨_, rfl, p, A'.dx, _, rfl, hh.ob, hf_none, p, A', S, 1, .non, rfl, hh, by omega, ?_⟩
  refine ⟨_, rfl, p, A'.dx, _, rfl, hh.ob, hf_none, _, rfl, by decide, fun l0 hl0 => ⟨_, rfl, _, rfl, Sum.inr kind, rfl, ?_⟩⟩
  rw [fixed_get]
  refine ⟨l0, _, [V.non], rfl, rfl, upd_same, by omega, by omega, by rw [PySem.sizeLine_eq]; simp; omega, fun l hl => ?_⟩
  rw [flat_rep]
  refine ⟨zl, fun t ht => ⟨zl, fun d hd => ?_⟩⟩
  have s1 : Same H (upd H l0 (.lst [V.non])) := Same.new hl0
  have s2 := s1.trans (Same.new (o := .lst (List.replicate (sizeOf kind size).toNat V.non)) hl)
  have s3 := s2.trans (Same.new (o := .tup [.str kind, .ref l]) ht)
  have s4 := s3.trans (Same.new (o := .lst [.ref t]) hd)
  refine ⟨_, rfl, p, A', S, kind, (sizeOf kind size).toNat, slot, d, t, l, rfl, hh.same s4, upd_same, kp_n upd_same hd, kp_n (kp_n upd_same ht) hd, by omega, hb, hroom, hs, fun A2 H2 hh2 fr2 tu2 gr2 => ?_⟩
  exact k A2 H2 hh2 (fun b o q nb => fr2 b o (s4 b o q) nb) ((Tups.of_same s4).trans tu2) (fun b hb => (gr2 b hb).imp id fun z => s4.free z)
theorem bs_m_House_init_0 : BlkScope (defScope s_m_House_init) ["self", "room", "slots"] (compScope ((asgVal (stAt (defBody s_m_House_init) 5)))) "guard" [] [] :=
  bsk
theorem bs_m_House_init_1 : BlkScope (defScope s_m_House_init) ["self", "room", "slots"] (compScope ((asgVal (stAt (defBody s_m_House_init) 6)))) "guard" [] [] :=
  bsk
theorem ok_m_House_init {f : Addr} {ds : List Value} (F : FunD K "__init__" "House.__init__" s_m_House_init f fd ds) (T : TX K mg C)  :
    FnOk P w K mg base CX0 (n + 1) f fd ["self", "room", "slots"] (spInit C) := by
  refine F.ok sc_m_House_init (by rintro _ _ _ _ ⟨_, _, _, _, rfl, _⟩; rfl) fun _ _ _ s H vs Q E hr h => ?_
  obtain ⟨p, dx, room, n, rfl, hp, h0, h1, k⟩ := h
  have hu := hu_of hr
  obtain ⟨tG, htG⟩ := T.g_guards
  refine ⟨_, (pss_cons (ps_fld (pv 0) (pv 1) rfl)
    (pss_cons (ps_fld (pv 0) (pe_op op_rep (pe_lst (pa_cons pe_non pa_nil)) (pv 2)) rfl)
    (pss_cons (ps_fld (pv 0) pe_int rfl)
    (pss_cons (ps_fld (pv 0) pe_dnewK rfl)
    (pss_cons (ps_fld (pv 0) pe_dnewK rfl)
    (pss_cons (ps_fld (pv 0) (pe_comp bs_m_House_init_0 rfl (pi_range1 (by rfl) T.g_range (pa_cons (pe_glob (v := .int 4) (by rfl) htG ⟨tG, rfl⟩) pa_nil)) (fun _ _ _ _ => pifs_nil) (fun _ _ _ _ => (pe_lst pa_nil))) rfl)
    (pss_one (ps_fld (pv 0) (pe_comp bs_m_House_init_1 rfl (pi_range1 (by rfl) T.g_range (pa_cons (pe_glob (v := .int 4) (by rfl) htG ⟨tG, rfl⟩) pa_nil)) (fun _ _ _ _ => pifs_nil) (fun _ _ _ _ => (pe_lst pa_nil))) rfl)))))))), ?_⟩
  -- self.room = room
  refine ⟨_, rfl, _, rfl, p, C, dx, _, rfl, hp, T.cl, T.n_room, (by show 0 < 1000; decide), ?_⟩
  -- self.slots = [None] * slots
  refine ⟨by decide, fun l0 hl0 => ⟨_, rfl, l0, _, [V.non], rfl, rfl, upd_same, by omega, by omega, by rw [PySem.sizeLine_eq]; simp; omega, fun l hl => ?_⟩⟩
  rw [flat_rep]
  have p0 : p ≠ l0 := ne_of_none upd_same hl0
  have p1 : p ≠ l := ne_of_none (by rw [upd_ne p0]; exact upd_same) hl
  refine ⟨_, rfl, p, C, dx, _, rfl, (by rw [upd_ne p1, upd_ne p0]; exact upd_same), T.cl, T.n_slots, (by show 1 < 1000; decide), ?_⟩
  -- self.last_name = 0
  refine ⟨_, rfl, p, C, dx, _, rfl, upd_same, T.cl, T.n_last, (by show 2 < 1000; decide), ?_⟩
  -- self.kinds = {}
  intro d1 hd1
  have p2 : p ≠ d1 := ne_of_none upd_same hd1
  refine ⟨_, rfl, p, C, dx, _, rfl, (by rw [upd_ne p2]; exact upd_same), T.cl, T.n_kinds, (by show 3 < 1000; decide), ?_⟩
  -- self.fields = {}
  intro d2 hd2
  have p3 : p ≠ d2 := ne_of_none upd_same hd2
  refine ⟨_, rfl, p, C, dx, _, rfl, (by rw [upd_ne p3]; exact upd_same), T.cl, T.n_fields, (by show 4 < 1000; decide), ?_⟩
  -- self.queues = ..
  dsimp only [tSeq, sFld]
  refine comp4 fun as Ha la na ha sa q hq => ?_
  have eP := sa p _ upd_same
  have p4 : p ≠ q := ne_of_none eP hq
  refine ⟨_, rfl, p, C, dx, _, rfl, (by rw [upd_ne p4]; exact eP), T.cl, T.n_queues, (by show 5 < 1000; decide), ?_⟩
  -- self.told = ..
  refine comp4 fun bs Hb lb nb hb sb tt htt => ?_
  have eP2 := sb p _ upd_same
  have p5 : p ≠ tt := ne_of_none eP2 htt
  refine ⟨_, rfl, p, C, dx, _, rfl, (by rw [upd_ne p5]; exact eP2), T.cl, T.n_told, (by show 6 < 1000; decide), ?_⟩
  rw [init_flds]
  -- what lies where
  have eL := sa l _ (kp_p (kp_n (kp_p (kp_n (kp_p (kp_p upd_same p1.symm) p1.symm) hd1) p1.symm) hd2) p1.symm)
  have eD1 := sa d1 _ (kp_p (kp_n (kp_p upd_same p2.symm) hd2) p2.symm)
  have eD2 := sa d2 _ (kp_p upd_same p3.symm)
  have eA : ∀ a ∈ as, a ≠ p := fun a m => (ne_of_none upd_same (ha a m).1).symm
  have eB : ∀ a ∈ bs, a ≠ p := fun a m => (ne_of_none upd_same (hb a m).1).symm
  have up2 : ∀ {o o' : HO} (b : Addr) (u : HO), b ≠ p → Hb b = some u → upd (upd Hb tt o) p o' b = some u := fun b u n h => kp_p (kp_n h htt) n
  have upB : ∀ (b : Addr) (u : HO), b ≠ p → Ha b = some u → Hb b = some u := fun b u n h => sb _ _ (kp_p (kp_n h hq) n)
  have low : ∀ (b : Addr) (u : HO), b ≠ p → H b = some u → Ha b = some u := fun b u n h => sa _ _ (kp_p (kp_n (kp_p (kp_n (kp_p (kp_p (kp_n (kp_n (kp_p h n) hl0) hl) n) n) hd1) n) hd2) n)
  have eQ := sb q _ (kp_p upd_same p4.symm)
  have fl : H l = none := un_p (un_p hl)
  have f1 : H d1 = none := un_p (un_p (un_p (un_p (un_p hd1))))
  have f2 : H d2 = none := un_p (un_p (un_p (un_p (un_p (un_p (un_p hd2))))))
  have gone : ∀ b : Addr, Ha b = none → b ≠ p → H b = none := fun b h n => by
    cases e : H b with
    | none => rfl
    | some u => rw [low b u n e] at h; cases h
  have fA : ∀ a ∈ as, H a = none := fun a m => un_p (un_p (un_p (un_p (un_p (un_p (un_p (un_p (un_p (ha a m).1))))))))
  have fB : ∀ a ∈ bs, Ha a = none := fun a m => un_p (un_p (hb a m).1)
  have nT : ∀ b u, Hb b = some u → b ≠ tt := fun b u h => ne_of_none h htt
  have tt0 : Ha tt = none := by
    cases e : Ha tt with
    | none => rfl
    | some u => rw [upB tt u p5.symm e] at htt; cases htt
  refine k ⟨dx, l, d1, d2, [], q, as, tt, bs⟩ _ ⟨upd_same, ⟨_, up2 _ _ p1.symm (upB _ _ p1.symm eL), pr_rep (show isT _ .non .non from rfl) _⟩, up2 _ _ p2.symm (upB _ _ p2.symm eD1), up2 _ _ p3.symm (upB _ _ p3.symm eD2), .nil,
    up2 _ _ p4.symm eQ, paired4 la fun a m => up2 _ _ (eA a m) (upB _ _ (eA a m) (ha a m).2), kp_p upd_same p5.symm, paired4 lb fun a m => up2 _ _ (eB a m) (hb a m).2, ?_, ?_, List.Pairwise.nil, fun b hb => by cases hb⟩
    (fun b o h n => ?_) (fun b xs h => ?_) (fun b hb => ?_)
  · show (l :: q :: tt :: ([] ++ (as ++ bs))).Nodup
    have l1 : l ≠ q := ne_of_none eL hq
    have l2 : l ≠ tt := nT _ _ (upB _ _ p1.symm eL)
    have l3 : l ∉ as := fun m => by
      have z := (ha l m).1
      rw [kp_p (kp_n (kp_p (kp_n (kp_p (kp_p upd_same p1.symm) p1.symm) hd1) p1.symm) hd2) p1.symm] at z
      cases z
    have l4 : l ∉ bs := fun m => by rw [fB l m] at eL; cases eL
    have q1 : q ≠ tt := nT _ _ eQ
    have q2 : q ∉ as := fun m => by rw [(ha q m).2] at hq; cases hq
    have q3 : q ∉ bs := fun m => by
      have z := (hb q m).1
      rw [kp_p upd_same p4.symm] at z
      cases z
    have t1 : tt ∉ as := fun m => by rw [(ha tt m).2] at tt0; cases tt0
    have t2 : tt ∉ bs := fun m => by rw [(hb tt m).2] at htt; cases htt
    have ab : ∀ x ∈ as, ∀ y ∈ bs, x ≠ y := fun x hx y hy e => by
      subst e
      have z := fB x hy
      rw [(ha x hx).2] at z
      cases z
    simp only [List.nil_append, List.nodup_cons, List.mem_cons, List.mem_append, not_or]
    exact ⟨⟨l1, l2, l3, l4⟩, ⟨q1, q2, q3⟩, ⟨t1, t2⟩, List.nodup_append.mpr ⟨na, nb, ab⟩⟩
  · exact ne_of_none (kp_p upd_same p2.symm) hd2
  · have n : b ≠ p := by simpa using n
    exact up2 _ _ n (upB _ _ n (low _ _ n h))
  · have n : b ≠ p := ne_of h hp (by intro z; cases z)
    exact up2 _ _ n (upB _ _ n (low _ _ n h))
  · have hb' : b = p ∨ b = d1 ∨ b = d2 ∨ b = l ∨ b = q ∨ b = tt ∨ b ∈ as ∨ b ∈ bs := by simpa [HA.foot, HA.lists] using hb
    rcases hb' with e | e | e | e | e | e | e | e
    · left; simp [e]
    · right; rw [e]; exact f1
    · right; rw [e]; exact f2
    · right; rw [e]; exact fl
    · right; rw [e]; exact gone q hq p4.symm
    · right; rw [e]; exact gone tt tt0 p5.symm
    · right; exact fA b e
    · right; exact gone b (fB b e) (eB b e)
end
section
variable {C : Addr}
theorem ok_f_law_whole {f : Addr} (F : Fun K "_law_whole" "_law_whole" s_f_law_whole f fd) (T : TX K mg C)  :
    FnOk P w K mg base CX0 (n + 1) f fd ["found"] (spWhole) := by
  refine F.ok sc_f_law_whole (by rintro _ _ _ _ ⟨_, rfl, _⟩; rfl) fun _ _ _ s H vs Q E hr h => ?_
  obtain ⟨i, rfl, q⟩ := h
  have hu := hu_of hr
  refine ⟨_, (pss_one (ps_ret (pe_and (pe_callB call_isi (by rfl) T.g_isi PyProof.Rows.boot_isinstance (pa_cons (pv 0) (pa_cons (pe_bltn (v := .ty "int") (by rfl) T.g_int PyProof.Rows.boot_int rfl) pa_nil))) (pe_one (pe_not (pe_callB call_isi (by rfl) T.g_isi PyProof.Rows.boot_isinstance (pa_cons (pv 0) (pa_cons (pe_bltn (v := .ty "bool") (by rfl) T.g_bool PyProof.Rows.boot_bool rfl) pa_nil)))))))), ?_⟩
  refine ⟨_, rfl, _, "int", _, true, rfl, TyOf.int i, kit_same _ _, _, rfl, iteT ?_⟩
  exact ⟨_, rfl, _, "bool", _, false, rfl, TyOf.int i, kit_sub (by decide +kernel) (by decide +kernel) T.s_ib, _, rfl, q⟩
theorem ok_f_law_names {f : Addr} (F : Fun K "_law_names" "_law_names" s_f_law_names f fd) (T : TX K mg C) (D_law_whole : DefOk P w K mg base n "_law_whole" ["found"] (spWhole) [[]]) :
    FnOk P w K mg base CX0 (n + 1) f fd ["found", "due"] (spNamesL K) := by
  refine F.ok sc_f_law_names (by rintro _ _ _ _ ⟨_, _, _, rfl, _⟩; rfl) fun _ _ _ s H vs Q E hr h => ?_
  obtain ⟨a, b, ns, rfl, ha, hb, hl, q⟩ := h
  have hu := hu_of hr
  refine ⟨_, (pss_cons (ps_if (PW.pt (pw_or (pt_not (pt_val (pe_callB call_isi (by rfl) T.g_isi PyProof.Rows.boot_isinstance (pa_cons (pv 0) (pa_cons (pe_bltn (v := .ty "list") (by rfl) T.g_list PyProof.Rows.boot_list rfl) pa_nil))))) (pw_or1 (pt_cmpR op_ne (pe_callB call_len_seq (by rfl) T.g_len PySem.boot_len (pa_cons (pv 0) pa_nil)) (pe_callB call_len_seq (by rfl) T.g_len PySem.boot_len (pa_cons (pv 1) pa_nil)) (nomark _))))) (pss_one (ps_ret pe_bl)) pss_nil)
    (pss_cons (ps_for PassesOwn.never rfl (pi_range1 (by rfl) T.g_range (pa_cons (pe_callB call_len_seq (by rfl) T.g_len PySem.boot_len (pa_cons (pv 1) pa_nil)) pa_nil)) (pg_name (i := 2) sc_f_law_names.nd rfl (Or.inl rfl))
    (pss_one (ps_if (PW.pt (pw_or (pt_not (pt_val (qc D_law_whole hr (pa_cons (pe_ix ix_list (pv 0) (pv 2) (fun _ _ => rfl)) pa_nil)))) (pw_or1 (pt_cmpR op_ne (pe_ix ix_list (pv 0) (pv 2) (fun _ _ => rfl)) (pe_ix ix_list (pv 1) (pv 2) (fun _ _ => rfl)) (nomark _))))) (pss_one (ps_ret pe_bl)) pss_nil)))
    (pss_one (ps_ret pe_bl)))), ?_⟩
  refine ⟨_, rfl, _, "list", _, true, rfl, TyOf.lst ha, kit_same _ _, _, rfl, iteF ?_⟩
  refine ⟨_, rfl, a, _, rfl, .inl (SqL.of ha), _, rfl, b, _, rfl, .inl hb, rfl, _, rfl, iteNS rfl ?_⟩
  refine ⟨_, rfl, b, _, rfl, .inl hb, _, rfl, by omega, by rw [List.length_map]; omega, ?_⟩
  have e : ((ns.map V.int).length : Int).toNat = ns.length := by simp
  rw [e]
  refine for_range (n := ns.length) (fun i σ H' => H' = H ∧ ∃ v, σ = [some (.ref a), some (.ref b), v]) ⟨rfl, none, rfl⟩ ?_ ?_
  · rintro i σ H' hi ⟨rfl, v, rfl⟩
    have hx : (ns.map V.int)[i]? = some (V.int ns[i]) := by rw [List.getElem?_map, List.getElem?_eq_getElem hi]; rfl
    have e0 : (0 : Int) + (i : Int) = (i : Int) := Int.zero_add _
    rw [e0]
    refine ⟨_, rfl, _, rfl, a, _, i, _, rfl, rfl, SqL.of ha, atI_nat hx, ns[i], rfl, _, rfl, iteF ?_⟩
    refine ⟨_, rfl, _, rfl, a, _, i, _, rfl, rfl, SqL.of ha, atI_nat hx, _, rfl, _, rfl, b, _, i, _, rfl, rfl, hb, atI_nat hx, rfl, _, rfl, iteNS rfl ?_⟩
    exact ⟨rfl, _, rfl⟩
  · rintro σ H' ⟨rfl, v, rfl⟩
    exact q
theorem ok_f_law_same {f : Addr} (F : Fun K "_law_same" "_law_same" s_f_law_same f fd) (T : TX K mg C) (D_law_whole : DefOk P w K mg base n "_law_whole" ["found"] (spWhole) [[]]) :
    FnOk P w K mg base CX0 (n + 1) f fd ["found", "due"] (spSame) := by
  refine F.ok sc_f_law_same (by rintro _ _ _ _ ⟨_, _, _, rfl, _⟩; rfl) fun _ _ _ s H vs Q E hr h => ?_
  obtain ⟨v, u, t, rfl, tv, tu, q⟩ := h
  have hu := hu_of hr
  refine ⟨_, (pss_cons (ps_if (pt_cmp (pc_isN (pv 1))) (pss_one (ps_ret (pe_cmp (pc_isN (pv 0))))) pss_nil)
    (pss_cons (ps_if (pt_not (pt_val (pe_callB call_isi (by rfl) T.g_isi PyProof.Rows.boot_isinstance (pa_cons (pv 1) (pa_cons (pe_bltn (v := .ty "tuple") (by rfl) T.g_tuple PyProof.Rows.boot_tuple rfl) pa_nil))))) (pss_one (ps_ret (pe_and (qc D_law_whole hr (pa_cons (pv 0) pa_nil)) (pe_one (pe_cmpR op_eq (pv 0) (pv 1) (nomark _)))))) pss_nil)
    (pss_cons (ps_if (PW.pt (pw_or (pt_not (pt_val (pe_callB call_isi (by rfl) T.g_isi PyProof.Rows.boot_isinstance (pa_cons (pv 0) (pa_cons (pe_bltn (v := .ty "tuple") (by rfl) T.g_tuple PyProof.Rows.boot_tuple rfl) pa_nil))))) (pw_or1 (pt_cmpR op_ne (pe_callB call_len_seq (by rfl) T.g_len PySem.boot_len (pa_cons (pv 0) pa_nil)) pe_int (nomark _))))) (pss_one (ps_ret pe_bl)) pss_nil)
    (pss_one (ps_ret (pe_and (pe_callB call_isi (by rfl) T.g_isi PyProof.Rows.boot_isinstance (pa_cons (pe_ix ix_tup (pv 0) pe_int (fun _ _ => rfl)) (pa_cons (pe_bltn (v := .ty "str") (by rfl) T.g_str PyProof.Rows.boot_str rfl) pa_nil))) (pe_and (qc D_law_whole hr (pa_cons (pe_ix ix_tup (pv 0) pe_int (fun _ _ => rfl)) pa_nil)) (pe_one (pe_cmpR (op_eqT hr.units0) (pv 0) (pv 1) (nomark _)))))))))), ?_⟩
  cases t with
  | non =>
    have tv : v = .non := tv
    have tu : u = .non := tu
    subst tv tu
    exact ⟨_, rfl, _, rfl, iteY rfl ⟨_, rfl, q⟩⟩
  | num i =>
    have tv : v = .int i := tv
    have tu : u = .int i := tu
    subst tv tu
    refine ⟨_, rfl, _, rfl, iteD (by intro z; cases z) ?_⟩
    refine ⟨_, rfl, _, "tuple", _, false, rfl, TyOf.int i, kit_sub (by decide +kernel) (by decide +kernel) T.s_it, _, rfl, iteT ?_⟩
    refine ⟨_, rfl, i, rfl, _, rfl, iteT ⟨_, rfl, _, rfl, rfl, ?_⟩⟩
    rw [decide_eq_true rfl]
    exact q
  | box n =>
    obtain ⟨a, rfl, ha⟩ := tv
    obtain ⟨b, rfl, hb⟩ := tu
    refine ⟨_, rfl, _, rfl, iteD (by intro z; cases z) ?_⟩
    refine ⟨_, rfl, _, "tuple", _, true, rfl, TyOf.tup hb, kit_same _ _, _, rfl, iteF ?_⟩
    refine ⟨_, rfl, _, "tuple", _, true, rfl, TyOf.tup ha, kit_same _ _, _, rfl, iteF ?_⟩
    refine ⟨_, rfl, a, _, rfl, .inr (SqT.of ha), rfl, _, rfl, iteNS rfl ?_⟩
    refine ⟨_, rfl, a, _, 0, .str "box", rfl, rfl, SqT.of ha, rfl, _, "str", _, true, rfl, TyOf.str _, kit_same _ _, _, rfl, iteT ?_⟩
    refine ⟨_, rfl, a, _, 1, .int n, rfl, rfl, SqT.of ha, rfl, n, rfl, _, rfl, iteT ?_⟩
    refine ⟨_, rfl, _, rfl, a, b, _, _, rfl, rfl, SqT.of ha, SqT.of hb, rfl, rfl, ?_⟩
    have e : eqT [V.str "box", V.int n] [V.str "box", V.int n] = true := by simp [eqT, eqV]
    rw [e]
    exact q
theorem ok_f_law_cell_at {f : Addr} (F : Fun K "_law_cell_at" "_law_cell_at" s_f_law_cell_at f fd) (T : TX K mg C)  :
    FnOk P w K mg base CX0 (n + 1) f fd ["script", "k"] (spCellD K) := by
  refine F.ok sc_f_law_cell_at (by rintro _ _ _ _ ⟨_, _, _, rfl, _⟩; rfl) fun _ _ _ s H vs Q E hr h => ?_
  obtain ⟨a, ns, k, rfl, hS, h0, q⟩ := h
  have hu := hu_of hr
  refine ⟨_, (pss_cons (ps_if (pt_cmpR op_lt (pv 1) (pe_callB call_len_seq (by rfl) T.g_len PySem.boot_len (pa_cons (pv 0) pa_nil)) (nomark _)) (pss_one (ps_ret (pe_ix ix_list (pv 0) (pv 1) (fun _ _ => rfl)))) pss_nil)
    (pss_one (ps_ret pe_int))), ?_⟩
  obtain ⟨j, rfl⟩ : ∃ j : Nat, k = (j : Int) := ⟨k.toNat, by omega⟩
  refine ⟨_, rfl, _, rfl, a, _, rfl, .inl hS.sq, _, _, rfl, rfl, _, rfl, ?_⟩
  refine ite2 (fun hlt => ?_) (fun hlt => ?_)
  · have hlt : (j : Int) < ((ns.map V.int).length : Int) := of_decide_eq_true hlt
    have hlt : j < ns.length := by rw [List.length_map] at hlt; omega
    refine ⟨_, rfl, _, rfl, a, _, j, V.int ns[j], rfl, rfl, hS.sq, atI_nat (by rw [List.getElem?_map, List.getElem?_eq_getElem hlt]; rfl), ?_⟩
    have e : cellOf ns (j : Int) = ns[j] := by simp [cellOf, List.getD_eq_getElem?_getD, hlt]
    rw [← e]; exact q
  · have hlt : ¬ (j : Int) < ((ns.map V.int).length : Int) := fun z => hlt (decide_eq_true z)
    have e : cellOf ns (j : Int) = 0 := by
      rw [List.length_map] at hlt
      simp [cellOf, List.getD_eq_getElem?_getD, List.getElem?_eq_none (show ns.length ≤ j by omega)]
    rw [e] at q
    exact q
theorem ok_f_law_as {f : Addr} (F : Fun K "_law_as" "_law_as" s_f_law_as f fd) (T : TX K mg C) (D_law_names : DefOk P w K mg base n "_law_names" ["found", "due"] (spNamesL K) [[]])
    (M_names : MethOk P w K mg base C n "names" ["self"] (spNames C) [[]])
    (D_law_whole : DefOk P w K mg base n "_law_whole" ["found"] (spWhole) [[]])
    (M_size : MethOk P w K mg base C n "size" ["self", "name"] (spSize C) [[]])
    (M_kind : MethOk P w K mg base C n "kind" ["self", "name"] (spKind C) [[]])
    (D_law_same : DefOk P w K mg base n "_law_same" ["found", "due"] (spSame) [[]])
    (M_field : MethOk P w K mg base C n "field" ["self", "name", "at"] (spField C) [[]])
    (M_held : MethOk P w K mg base C n "held" ["self", "slot"] (spHeld C) [[]]) :
    FnOk P w K mg base CX0 (n + 1) f fd ["house", "kinds", "rows", "slots"] (spAs C) := by
  refine F.ok sc_f_law_as (by rintro _ _ _ _ ⟨_, _, _, _, _, _, _, rfl, _⟩; rfl) fun _ _ _ s H vs Q E hr h => ?_
  obtain ⟨p, ak, ar, as, A', S, fl, rfl, hh, hk, hr', pf, hs, h64, q⟩ := h
  have hu := hu_of hr
  refine ⟨_, (pss_cons (ps_if (pt_not (pt_val (qc D_law_names hr (pa_cons (qm0 M_names (pv 0) T.cl hr) (pa_cons (pe_callB (call_sortedD hr.hd) (by rfl) T.g_sorted PyProof.Rows.boot_sorted (pa_cons (pv 1) pa_nil)) pa_nil))))) (pss_one (ps_ret pe_bl)) pss_nil)
    (pss_cons (ps_for PassesOwn.never rfl (pi_list (pe_callB (call_sortedD hr.hd) (by rfl) T.g_sorted PyProof.Rows.boot_sorted (pa_cons (pv 1) pa_nil))) (pg_name (i := 4) sc_f_law_as.nd rfl (Or.inl rfl))
    (pss_cons (ps_if (PW.pt (pw_or (pt_cmpR op_ne (qm M_kind (pv 0) T.cl hr (pa_cons (pv 4) pa_nil)) (pe_dget hu (pv 1) (pv 4) (fun _ _ => rfl)) (nomark _)) (pw_or1 (pt_not (pt_val (qc D_law_whole hr (pa_cons (qm M_size (pv 0) T.cl hr (pa_cons (pv 4) pa_nil)) pa_nil))))))) (pss_one (ps_ret pe_bl)) pss_nil)
    (pss_cons (ps_if (pt_cmpR op_ne (qm M_size (pv 0) T.cl hr (pa_cons (pv 4) pa_nil)) (pe_callB call_len_seq (by rfl) T.g_len PySem.boot_len (pa_cons (pe_dget hu (pv 2) (pv 4) (fun _ _ => rfl)) pa_nil)) (nomark _)) (pss_one (ps_ret pe_bl)) pss_nil)
    (pss_one (ps_for PassesOwn.never rfl (pi_enum (by rfl) T.g_enumerate (pa_cons (pe_dget hu (pv 2) (pv 4) (fun _ _ => rfl)) pa_nil)) (pg_pair rfl sc_f_law_as.nd (i := 5) (j := 6) rfl rfl (Or.inl rfl) (Or.inl rfl))
    (pss_one (ps_if (pt_not (pt_val (qc D_law_same hr (pa_cons (qm M_field (pv 0) T.cl hr (pa_cons (pv 4) (pa_cons (pv 5) pa_nil))) (pa_cons (pv 6) pa_nil))))) (pss_one (ps_ret pe_bl)) pss_nil)))))))
    (pss_cons (ps_for PassesOwn.never rfl (pi_enum (by rfl) T.g_enumerate (pa_cons (pv 3) pa_nil)) (pg_pair rfl sc_f_law_as.nd (i := 7) (j := 6) rfl rfl (Or.inl rfl) (Or.inl rfl))
    (pss_one (ps_if (pt_not (pt_val (qc D_law_same hr (pa_cons (qm M_held (pv 0) T.cl hr (pa_cons (pv 7) pa_nil)) (pa_cons (pv 6) pa_nil))))) (pss_one (ps_ret pe_bl)) pss_nil)))
    (pss_one (ps_ret pe_bl))))), ?_⟩
  obtain ⟨ws, hw, htw⟩ := hs
  have hfl := pr_len pf
  have hnd := hh.nm
  have hnl : (names S).length = S.boxes.length := by simp [names]
  have hns : ((names S).map V.int).length = S.boxes.length := by simp [names]
  -- the names
  refine ⟨_, rfl, p, A'.dx, _, rfl, hh.ob, hf_none, p, A', S, rfl, hh, h64, fun l hl => ?_⟩
  refine ⟨_, rfl, ak, _, names S, rfl, kp_n hk hl, kindsD_keys _, by omega, fun l2 ns' hl2 hp hs => ?_⟩
  rw [perm_asc hp hs hh.asc]
  refine ⟨l, l2, names S, rfl, kp_n upd_same hl2, SqL.of upd_same, by omega, _, rfl, iteF ?_⟩
  have s1 : Same H (upd (upd H l (.lst ((names S).map V.int))) l2 (.lst ((names S).map V.int))) := (Same.new hl).trans (Same.new hl2)
  generalize upd (upd H l (.lst ((names S).map V.int))) l2 (.lst ((names S).map V.int)) = H1 at s1 ⊢
  refine ⟨_, rfl, ak, _, names S, rfl, s1 _ _ hk, kindsD_keys _, by omega, fun l3 ns3 hl3 hp3 hs3 => ?_⟩
  rw [perm_asc hp3 hs3 hh.asc]
  refine ⟨l3, rfl, ⟨_, SqL.of upd_same⟩, ?_⟩
  have s2 : Same H (upd H1 l3 (.lst ((names S).map V.int))) := s1.trans (Same.new hl3)
  have h3 : (upd H1 l3 (.lst ((names S).map V.int))) l3 = some (.lst ((names S).map V.int)) := upd_same
  generalize upd H1 l3 (.lst ((names S).map V.int)) = H2 at s2 h3 ⊢
  refine for_list (K := K) (xs := (names S).map V.int) (fun i σ H' => ∃ v_name v_at v_thing v_slot, σ = [some (.ref p), some (.ref ak), some (.ref ar), some (.ref as), v_name, v_at, v_thing, v_slot] ∧ Same H2 H') ?_ ?_ ?_ ?_
  · exact ⟨_, _, _, _, rfl, Same.refl _⟩
  · rintro i σ H' _ ⟨_, _, _, _, rfl, s⟩
    exact SqL.of (s _ _ h3)
  · rintro i y σ H' hy ⟨v1, v2, v3, v4, rfl, s⟩
    obtain ⟨b, hb, rfl⟩ : ∃ b, S.boxes[i]? = some b ∧ y = .int b.name := by
      rw [List.getElem?_map, names, List.getElem?_map] at hy
      cases e : S.boxes[i]? with
      | none => rw [e] at hy; cases hy
      | some b => rw [e] at hy; exact ⟨b, rfl, (Option.some.inj hy).symm⟩
    have s' := s2.trans s
    have hh' := hh.same s'
    obtain ⟨a, ha, vs, hv, htv⟩ := pr_get pf hb
    refine ⟨_, rfl, p, A'.dx, _, rfl, hh'.ob, hf_none, _, rfl, p, A', S, i, b, rfl, hh', hb, _, rfl, _, rfl, ak, .str b.kind, rfl, ?_, rfl, _, rfl, iteNS rfl ?_⟩
    · rw [← kindAt hnd hb]; exact DGet.k (k := Sum.inl b.name) (s' _ _ hk)
    refine ⟨_, rfl, p, A'.dx, _, rfl, hh'.ob, hf_none, _, rfl, p, A', S, i, b, rfl, hh', hb, _, rfl, _, rfl, iteF ?_⟩
    refine ⟨_, rfl, p, A'.dx, _, rfl, hh'.ob, hf_none, _, rfl, p, A', S, i, b, rfl, hh', hb, _, rfl, _, rfl, ar, .ref a, rfl, ?_, a, vs, rfl, .inl (SqL.of (s' _ _ hv)), rfl, _, rfl, iteNS (by rw [pr_len htv]) ?_⟩
    · rw [← rowAt hfl hnd hb ha]; exact DGet.k (k := Sum.inl b.name) (s' _ _ hr')
    refine ⟨_, rfl, _, rfl, ar, .ref a, rfl, ?_, a, vs, rfl, s' _ _ hv, ?_⟩
    · rw [← rowAt hfl hnd hb ha]; exact DGet.k (k := Sum.inl b.name) (s' _ _ hr')
    refine for_enum (xs := vs) (fun j σ H' => ∃ v_at v_thing v_slot, σ = [some (.ref p), some (.ref ak), some (.ref ar), some (.ref as), some (.int b.name), v_at, v_thing, v_slot] ∧ Same H2 H') ?_ ?_ ?_ ?_
    · exact ⟨_, _, _, rfl, s⟩
    · rintro j σ H' _ ⟨_, _, _, rfl, s⟩
      exact (s2.trans s) _ _ hv
    · clear s s' hh' v1 v2 v3 v4
      rintro j y σ H' q1 hy ⟨v1, v2, v3, rfl, s⟩ hq1
      obtain ⟨t, ht, tv⟩ := pr_getR htv hy
      have s3 := (s2.trans s).trans (Same.new (o := .tup [.int (j : Int), y]) hq1)
      have hh3 := hh.same s3
      refine ⟨q1, _, _, rfl, upd_same, ?_⟩
      refine ⟨_, rfl, p, A'.dx, _, rfl, hh3.ob, hf_none, _, rfl, _, rfl, p, A', S, i, b, j, t, rfl, hh3, hb, ht, fun v hv' => ?_⟩
      exact ⟨_, rfl, v, y, t, rfl, hv', tv.keep (Tups.of_same s3), _, rfl, iteF ⟨_, _, _, rfl, s.trans (Same.new hq1)⟩⟩
    · rintro σ H' ⟨v1, v2, v3, rfl, s⟩
      exact ⟨_, _, _, _, rfl, s⟩
  · rintro σ H' ⟨v1, v2, v3, v4, rfl, s⟩
    refine ⟨_, rfl, as, ws, rfl, (s2.trans s) _ _ hw, ?_⟩
    refine for_enum (xs := ws) (fun j σ H' => ∃ v_name v_at v_thing v_slot, σ = [some (.ref p), some (.ref ak), some (.ref ar), some (.ref as), v_name, v_at, v_thing, v_slot] ∧ Same H2 H') ?_ ?_ ?_ ?_
    · exact ⟨_, _, _, _, rfl, s⟩
    · rintro j σ H' _ ⟨_, _, _, _, rfl, s⟩
      exact (s2.trans s) _ _ hw
    · clear s v1 v2 v3 v4
      rintro j y σ H' q1 hy ⟨v1, v2, v3, v4, rfl, s⟩ hq1
      obtain ⟨t, ht, tv⟩ := pr_getR htw hy
      have s3 := (s2.trans s).trans (Same.new (o := .tup [.int (j : Int), y]) hq1)
      have hh3 := hh.same s3
      refine ⟨q1, _, _, rfl, upd_same, ?_⟩
      refine ⟨_, rfl, p, A'.dx, _, rfl, hh3.ob, hf_none, _, rfl, p, A', S, j, t, rfl, hh3, ht, fun v hv' => ?_⟩
      exact ⟨_, rfl, v, y, t, rfl, hv', tv.keep (Tups.of_same s3), _, rfl, iteF ⟨_, _, _, _, rfl, s.trans (Same.new hq1)⟩⟩
    · rintro σ H' ⟨v1, v2, v3, v4, rfl, s⟩
      exact q _ (s2.trans s)
end
end LW


/-! MORE RULES over the layer: xs.remove(n), xs a list of ints -/
namespace L2
open PySem PySem.Spec PyProof.Rows
section
variable {X : Cx}
end
end L2

/-! rules inside of a comprehension -/
namespace LW
open PySem L2
/-- the same rules inside of a comprehension, where the frame is another -/
theorem ixk_tup {X : Cx} {K' : Fg} (h : X.K = K') : IxR X (rIxT K') := h ▸ ix_tup
end LW

/-! THE LAW's defs: the boxes among things -/
namespace LW
open PySem L2
section
variable {C CS : Addr}
end
end LW


namespace L2
open PySem PySem.Spec PyProof.Rows PySem.W

/-! ### exceptions: how one lies behind a call -/
/-- not the frame, not a cell, not pinned, not there at the entry -/
structure Apart (X : Cx) (pins : Pn) (b : Addr) : Prop where
  new : X.s₀.heap.get? b = none
  loc : b ≠ X.env.locals
  cel : ∀ x c, X.env.cells.lookup x = some c → c ≠ b
  pin : ∀ p ∈ X.pn ++ pins, p.1 ≠ b
section
variable {X : Cx} {pins : Pn} {σ : St} {H H' : Hp} {s : Shared} {b : Addr} {h' : Heap} {P : Program} {w : World} {h : Heap} {a : Addr} {o : HO}
theorem Inv.apart (I : Inv X pins σ H s) (hx : X.ex = []) (h : s.heap.get? b = none) : Apart X pins b := by
  refine ⟨?_, fun z => ?_, fun x c e z => ?_, fun p hp z => ?_⟩
  · cases q : X.s₀.heap.get? b with
    | none => rfl
    | some o =>
      obtain ⟨o', e⟩ := I.base.there b o q (by rw [hx]; simp)
      rw [h] at e; cases e
  · obtain ⟨m, ⟨o, es, ep, e, _⟩, _⟩ := I.loc
    rw [← z, h] at e; cases e
  · obtain ⟨v, o, e', _⟩ := I.cell x c e
    rw [z, h] at e'; cases e'
  · have := (I.pin p hp).1
    rw [z, h] at this; cases this
theorem ObjOk.there (x : ObjOk P w H h a o) : ∃ u, h.get? a = some u := by
  cases o with
  | lst xs => obtain ⟨_, _, _, _, e⟩ := x; exact ⟨_, e⟩
  | tup xs => obtain ⟨_, _, _, p⟩ := x; obtain ⟨_, e, _⟩ := p; exact ⟨_, e⟩
  | dK kvs => obtain ⟨_, _, _, _, o, _, _, e, _⟩ := x; exact ⟨_, e⟩
  | dT kvs => obtain ⟨_, _, _, _, o, _, _, e, _⟩ := x; exact ⟨_, e⟩
  | set S n => obtain ⟨o, _, _, _, e, _⟩ := x; exact ⟨_, e⟩
  | ins C dx fs => obtain ⟨_, _, _, e, _⟩ := x; exact ⟨_, e⟩
  | own y => exact x
  | xd fs => obtain ⟨_, ⟨_, _, _, e, _⟩, _⟩ := x; exact ⟨_, e⟩
  | rng lo hi => obtain ⟨_, _, _, e⟩ := x; exact ⟨_, e⟩
  | frz ob u => obtain ⟨e, _⟩ := x; exact ⟨_, e⟩
  | tbl ps => exact ⟨_, x⟩
  | met f y => exact ⟨_, x⟩
  | ext φ => exact x.2.1
theorem HOk.only (x : HOk P w H h) (k : ∀ b u, H b ≠ none → h.get? b = some u → h'.get? b = some u) : HOk P w H h' := fun a o e =>
  (x a o e).stay (fun b u hb q => k b u (by rcases hb with rfl | hb <;> simp [*]) q) (fun _ q => q) (fun _ _ q => q)

/-- the frames' slots, and the records at ch, may be written: the state is the body's still -/
theorem Inv.flown {ch : List Addr} {t' : Nat} (I : Inv X pins σ H s) (ha : ∀ b ∈ ch, Apart X pins b ∧ H b = none)
    (k : ∀ b o, s.heap.get? b = some o → b ∉ frs X.stack → b ∉ ch → h'.get? b = some o) (u : s.heap.UpToSlots h') : Inv X pins σ H { s with heap := h', toks := t' } := by
  have fr : ∀ b o, s.heap.get? b = some o → b ∈ frs X.stack → ∃ sl, h'.get? b = some { o with slots := sl } := fun b o q hb => by
    obtain ⟨_, o', q', hd⟩ := I.stack.mem hb
    rw [q] at q'; cases q'
    exact u b o q hd
  have old : ∀ b o, X.s₀.heap.get? b = some o → b ∉ ch := fun b o q hb => by
    have := (ha b hb).1.new
    rw [q] at this; cases this
  have sub : ∀ b o, X.s₀.heap.get? b = some o → b ∈ frs X.stack → b ∈ X.fs := fun b o q hb => by
    rcases List.mem_cons.mp (I.stkSub b hb) with e | hb
    · have h1 := Heap.lt_size q
      have h2 := I.ok.above
      rw [← e] at h2
      exact absurd h1 (Nat.not_lt.mpr h2)
    · exact hb
  have any : ∀ b o, s.heap.get? b = some o → b ∉ ch → ∃ sl, h'.get? b = some { o with slots := sl } := fun b o q hb => by
    by_cases hf : b ∈ frs X.stack
    · exact fr b o q hf
    · exact ⟨o.slots, k b o q hf hb⟩
  have cellK : ∀ x c v, X.env.cells.lookup x = some c → s.heap.IsCell c v → h'.IsCell c v := fun x c v e ⟨o, q, d⟩ => by
    obtain ⟨sl, q'⟩ := any c o q fun hb => (ha c hb).1.cel x c e rfl
    exact ⟨_, q', d⟩
  refine ⟨I.ok, I.os, I.bare, ⟨fun b o q n hf hx => ?_, fun b o q n hf hx => ?_, I.base.free, fun b o q hx => ?_, I.base.tups, I.base.frzs, I.base.tbls⟩, ?_, fun x c e => ?_, I.free, I.freeC, fun p hp => ?_, ?_, I.len⟩
  · by_cases hb : b ∈ frs X.stack
    · exact absurd (sub b o q hb) hf
    · exact k b o (I.base.keep b o q n hf hx) hb (old b o q)
  · obtain ⟨sl, q1⟩ := I.base.slot b o q n hf hx
    obtain ⟨sl', q2⟩ := any b _ q1 (old b o q)
    exact ⟨sl', q2⟩
  · obtain ⟨o', q1⟩ := I.base.there b o q hx
    obtain ⟨sl', q2⟩ := any b _ q1 (old b o q)
    exact ⟨_, q2⟩
  · obtain ⟨m, hn, hm⟩ := I.loc
    refine ⟨m, u.ns hn, fun i x v h1 h2 h3 => ?_⟩
    obtain ⟨z, r, l⟩ := hm i x v h1 h2 h3
    refine ⟨z, r, ?_⟩
    rcases l with l | ⟨l1, c, l2, l3⟩
    · exact .inl l
    · exact .inr ⟨l1, c, l2, cellK x c _ l2 l3⟩
  · obtain ⟨v, q⟩ := I.cell x c e
    exact ⟨v, cellK x c v e q⟩
  · obtain ⟨q, n, nl, nf, nc⟩ := I.pin p hp
    refine ⟨k _ _ q (fun hb => ?_) (fun hb => (ha _ hb).1.pin p hp rfl), n, nl, nf, nc⟩
    rcases List.mem_cons.mp (I.stkSub _ hb) with e | hb
    · exact nl e
    · exact nf hb
  · refine I.hok.only fun b o hb q => k b o q (fun hf => hb (I.stkFree b hf)) fun hc => hb (ha b hc).2

/-- an exception in flight: its object, its first traceback entry; neither was there in g, neither is tracked -/
structure Fly (g : Heap) (H : Hp) (h : Heap) (e C T : Addr) : Prop where
  newE : g.get? e = none
  newT : g.get? T = none
  frE : H e = none
  frT : H T = none
  ne : T ≠ e
  obj : ∃ oe vs a0 oT ts, h.get? e = some oe ∧ oe.cls = .ref C ∧ oe.data = .fields vs ∧ vs[0]? = some a0 ∧ vs[1]? = some (.ref T) ∧ h.get? T = some oT ∧ oT.data = .fields ts ∧ ts[3]? = some .none
/-- made, not yet out of its frame -/
structure Raised (g : Heap) (H : Hp) (h : Heap) (e C : Addr) : Prop where
  newE : g.get? e = none
  frE : H e = none
  obj : ∃ oe vs a0, h.get? e = some oe ∧ oe.cls = .ref C ∧ oe.data = .fields vs ∧ vs[0]? = some a0 ∧ vs[1]? = some .none
end
def CXF (P : Program) (w : World) : CXT := fun outer H s E e s' => ∃ a C T H', e = .ref a ∧ s'.os = s.os ∧ AllBare s'.gens ∧ Un (frs outer) [] H H' s.heap s'.heap ∧ HOk P w H' s'.heap ∧ Fly s.heap H' s'.heap a C T ∧ E (.ref C) none H'

section
variable {X : Cx} {pins : Pn} {σ : St} {H H' : Hp} {s : Shared} {b e C T : Addr} {h' : Heap}
/-- behind a hidden base: what is known of the new entry -/
theorem Inv.entry {B : Heap} {as : List Addr} {outer : List Env} {a0 : Value} {g : Heap} (I : Inv X pins σ H s) (hB : B = hideAll s.heap (frs X.stack ++ as)) (hl : h'.FunFrames B X.stack)
    (hg : ∀ b o, g.get? b = some o → ∃ o', s.heap.get? b = some o') (ha : ∀ b ∈ as, g.get? b = none ∧ H b = none) (hE : e ∈ as) (t : h'.TracedW B e (.ref C) a0) : ∃ T, Fly g H h' e C T := by
  obtain ⟨oe, vs, T, oT, ts, he, ⟨hc, h0⟩, hd, h1, hT, hne, hoT, hdT, h3⟩ := t
  have nas : ∀ o, s.heap.get? T = some o → T ∈ as := fun o q => by
    by_cases hm : T ∈ frs X.stack ++ as
    · rcases List.mem_append.mp hm with hm | hm
      · obtain ⟨_, o', q', n⟩ := hl.mem hm
        rw [hoT] at q'; cases q'
        exact absurd hdT (n ts)
      · exact hm
    · rw [hB, hideAll_get _ q hm] at hT; cases hT
  refine ⟨T, (ha e hE).1, ?_, (ha e hE).2, ?_, hne, oe, vs, a0, oT, ts, he, hc, hd, h0, h1, hoT, hdT, h3⟩
  · cases q : g.get? T with
    | none => rfl
    | some o =>
      obtain ⟨o', q'⟩ := hg T o q
      have := (ha T (nas o' q')).1
      rw [q] at this; cases this
  · cases q : H T with
    | none => rfl
    | some o =>
      obtain ⟨o', q'⟩ := (I.hok T o q).there
      have := (ha T (nas o' q')).2
      rw [q] at this; cases this
end
end L2

namespace L2
open PySem PySem.Spec PyProof.Rows PySem.W

section
variable {X : Cx} {pins : Pn} {σ : St} {H : Hp} {s : Shared} {e C T : Addr} {E : XK}
theorem mem_frs {l : List Env} : ∀ env ∈ l, ∀ a, env.frame = some a → a ∈ frs l := fun env he a hf => List.mem_filterMap.mpr ⟨env, he, hf⟩
/-- the exception leaves the body's frame -/
theorem leave_out {M : Model} {EE : Value → Shared → Prop} (I : Inv X pins σ H s) (hx : X.ex = []) (hst : X.stack = X.env :: X.outer) (hf : X.env.frame = some X.env.locals)
    (pe : Apart X pins e) (fl : Raised X.s₀.heap H s.heap e C ∨ ∃ T, Apart X pins T ∧ Fly X.s₀.heap H s.heap e C T) (hE : E (.ref C) none H) :
    wpAny M X.A (leaving X.env (.ref e)) (fun _ s' => CXF X.prog X.w X.outer X.H₀ X.s₀ E (.ref e) s') EE s := by
  have hfr : X.A.frames = some (X.env :: X.outer) := by rw [I.ok.frames, hst]
  have hg : ∀ b o, X.s₀.heap.get? b = some o → ∃ o', s.heap.get? b = some o' := fun b o q => I.base.there b o q (by rw [hx]; simp)
  have fin : ∀ (as : List Addr) (h' : Heap) (a0 : Value), e ∈ as → (∀ b ∈ as, Apart X pins b ∧ H b = none) → Heap.LeftW (hideAll s.heap (frs X.stack ++ as)) (X.env :: X.outer) e (.ref C) a0 s.heap h' →
      CXF X.prog X.w X.outer X.H₀ X.s₀ E (.ref e) { s with heap := h' } := fun as h' a0 hm ha ⟨k1, k2, k3, k4⟩ => by
    have I' : Inv X pins σ H { s with heap := h' } := Inv.flown (t' := s.toks) I ha (fun b o q n1 n2 => k1 b o (hideAll_get _ q fun z => (List.mem_append.mp z).elim n1 n2)) k4
    obtain ⟨T', fl'⟩ := Inv.entry (outer := X.outer) I rfl (by have z := k2; rw [← hst] at z; exact z) hg (fun b hb => ⟨(ha b hb).1.new, (ha b hb).2⟩) hm k3
    have un := I'.base
    rw [hx] at un
    exact ⟨e, C, T', H, rfl, I'.os, I'.bare, un, I'.hok, fl', hE⟩
  have st : ∀ as : List Addr, s.heap.FunFrames (hideAll s.heap (frs X.stack ++ as)) (X.env :: X.outer) := fun as => by
    have := I.stack
    rw [hst] at this
    exact funFrames_hide this fun env he a hf => List.mem_append_left _ (by rw [hst]; exact mem_frs env he a hf)
  rcases fl with ⟨n, fr, oe, vs, a0, he, hc, hd, h0, h1⟩ | ⟨T, pt, n, nT, fr, frT, ne, oe, vs, a0, oT, ts, he, hc, hd, h0, h1, hT, hdT, h3⟩
  · refine wpAny_leaving_firstW (base := hideAll s.heap (frs X.stack ++ [e])) hfr (st _) hf he (fun b o q => of_hideAll _ q) (hideAll_none _ (by simp)) hd h1 h0 fun h' L => ?_
    rw [hc] at L
    exact fin [e] h' a0 (by simp) (fun b hb => by obtain rfl := List.mem_singleton.mp hb; exact ⟨pe, fr⟩) L
  · refine wpAny_leaving_nextW (base := hideAll s.heap (frs X.stack ++ [e, T])) (cls := .ref C) (a0 := a0) hfr (st _) hf
      ⟨oe, vs, T, oT, ts, he, ⟨hc, h0⟩, hd, h1, hideAll_none _ (by simp), ne, hT, hdT, h3⟩ (fun b o q => of_hideAll _ q) (hideAll_none _ (by simp)) fun h' L => ?_
    exact fin [e, T] h' a0 (by simp) (fun b hb => by
      rcases List.mem_cons.mp hb with rfl | hb
      · exact ⟨pe, fr⟩
      · obtain rfl := List.mem_singleton.mp hb; exact ⟨pt, frT⟩) L

/-- a body whose exceptions are wanted as E -/
structure Throws (X : Cx) (E : XK) : Prop where
  ex : X.ex = []
  xe : ∀ (pins : Pn) (σ : St) (H : Hp) (s : Shared) (e C : Addr), Inv X pins σ H s → Apart X pins e → (Raised X.s₀.heap H s.heap e C ∨ ∃ T, Apart X pins T ∧ Fly X.s₀.heap H s.heap e C T) → E (.ref C) none H → X.xe (.ref e) s
theorem Throws.passes {E' : XK} (t : Throws X E) (h : ∀ C H, E' (.ref C) none H → E (.ref C) none H) : Passes (CXF X.prog X.w) X E' := by
  intro pins σ H s e s' I hc
  obtain ⟨a, C, T, H', rfl, os, bare, un, hok, fl, q⟩ := hc
  have I' := I.call' (ch := []) os un hok bare (fun b z => absurd z (by simp))
  have pe := I.apart t.ex fl.newE
  have pT := I.apart t.ex fl.newT
  exact t.xe pins σ H' s' a C I' pe (.inr ⟨T, pT, pe.new, pT.new, fl.frE, fl.frT, fl.ne, fl.obj⟩) (h _ _ q)
end
theorem throws_cx {N : List Str} {qual : Str} {scope : Scope} {f : Addr} {cd : Value} {A : Around} {outer : List Env} {s : Shared} {H : Hp} {E : XK} :
    Throws (cxOf (CXF P w) P w K mg base N qual scope f cd A outer s H E) E :=
  ⟨rfl, fun _ _ _ _ _ _ I pe fl hE => leave_out I rfl rfl rfl pe fl hE⟩

/-! ### raise C(..) of an own class of exceptions -/
theorem exc_of_in {K : Frag} {h : Heap} {C : Addr} {bmB : List Value} {newId : String} (X : K.In h) (q : excIn K C bmB newId = true) :
    ∃ bm N nm qn bs hdct sn sub ab col dd k0 k1 k2 k3 k5 mN, h.get? C = some (excClassObj nm qn C N bs bm hdct sn sub ab col dd k0 k1 k2 k3 k5 newId) ∧ h.Ns N mN ∧ mN "__init__" = none ∧ OwnTail h bmB bm := by
  unfold excIn at q
  split at q
  · rename_i dd cd sl ho
    split at q
    · rename_i C' bm k0 k1 k2 k3 n k5 hm hs
      simp only [Bool.and_eq_true, beq_iff_eq, Bool.not_eq_true'] at q
      obtain ⟨⟨⟨⟨⟨rfl, rfl⟩, hdel⟩, ht⟩, hok⟩, hni⟩ := q
      obtain ⟨nm, bs, mro, ns, qn, hd, sn, sub, ab, col, del⟩ := cd
      dsimp only at hm hdel hok hni
      subst hm hdel
      have hsl : sl = #[k0, k1, k2, k3, some (.builtin n), k5] := by
        obtain ⟨l⟩ := sl
        simp only at hs
        rw [hs]
      subst hsl
      exact ⟨bm, ns, nm, qn, bs, hd, sn, sub, ab, col, dd, k0, k1, k2, k3, k5, _, X _ _ ho, .of_isNs (isNs_of_in X hok), nsMap_none_of_in X hok hni, tail_of_in X ht⟩
    · cases q
  · cases q
/-- an own class beneath ValueError -/
def Exc (K : Frag) (C : Addr) : Prop := excIn K C [.type "ValueError", .type "Exception", .type "BaseException", .type "object"] "ValueError.__new__" = true
def tRaise (C : Addr) (E : XK) (t : TA) : TS := fun _ σ H => t σ H fun vs H1 => vs.length ≤ sizeLine ∧ E (.ref C) none H1
section
variable {X : Cx} {E : XK} {C : Addr} {x : Str} {np cpos pos : Pos} {e : Expr} {es : List Expr} {t : TA}
theorem ps_raise (tx : Throws X E) (hd : X.calm = true) (hg : Gl X x) (hm : X.mg x = some (.ref C)) (hC : Exc X.K C) (ha : PA X (e :: es) t) (hdb : (x == ("__debug__" : Str)) = false := by decide)
    (he : starEach (e :: es) X.env = (false, eval e X.env) :: starEach es X.env := by rfl) (hpl : (backTo cpos (starEach es X.env)).any (·.1) = false := by rfl) :
    PS X (.Raise (some (.Call (.Name x np) (e :: es) [] cpos)) none pos) (tRaise C E t) := by
  intro pins s σ H D I h
  obtain ⟨bm, N, nm, qn, bs, hdct, sn, sub, ab, col, dd, k0, k1, k2, k3, k5, mN, hc, hn, hni, tl⟩ := exc_of_in I.ok.mod.kin hC
  have hpl' : (backTo cpos (starEach (e :: es) X.env)).any (·.1) = false := by
    rw [he]; show (false || (backTo cpos (starEach es X.env)).any (·.1)) = false; rw [hpl]; rfl
  refine wpAny_Raise_call_subU PySem.F.excBase_ValueError (by decide +kernel) PySem.F.excBase_ValueError (nm := nm) (q := qn) (C := C) (N := N) (bs := bs) (bm := bm) (hdct := hdct) (sn := sn) (sub := sub) (ab := ab) (col := col) (dd := dd) (k0 := k0) (k1 := k1) (k2 := k2) (k3 := k3) (k5 := k5) (mN := mN) (tl.hasType (by decide +kernel)) (I.ok.hd hd) hpl' hni ?_
  refine ld_glob I hg hm ⟨rfl, ?_⟩ hdb
  have q := ha cpos pins s σ H _ I h
  rw [he] at q ⊢
  refine Calls.evalArgs_plain (thn q fun us s1 ⟨vs, H1, I1, r, z, q1⟩ => ?_)
  refine ⟨rfl, by rw [← r.length]; exact z, I1.bk _ _ hc, hn.keeps I1.bk, tl.keeps I1.bk, fun h' a hm' => ?_⟩
  have I2 : Inv X pins σ H1 { s1 with heap := h' } := I1.kept (t' := s1.toks) hm'.keeps
  have pa := I1.apart tx.ex hm'.new
  obtain ⟨tp, ht, _, _⟩ := hm'.there
  refine tx.xe pins σ H1 _ a C I2 pa (.inl ⟨pa.new, ?_, _, _, .ref tp, ht, rfl, rfl, rfl, rfl⟩) q1
  cases w : H1 a with
  | none => rfl
  | some o =>
    obtain ⟨u, e'⟩ := (I1.hok a o w).there
    rw [hm'.new] at e'; cases e'
end

/-- THE RULE for a def that may refuse -/
theorem Fun.okX {x qual : Str} {st : Stmt} {f : Addr} {fd : FuncData} {N ps : List Str} {k : Nat} {sp : Sp} (F : Fun K x qual st f fd) (S : FnScope N ps (defScope st)) (len : ∀ vs H Q E, sp vs H Q E → vs.length = ps.length)
    (hbody : ∀ (cdv : Value) (A : Around) (outer : List Env) (s : Shared) (H : Hp) (vs : List V) (Q : VK) (E : XK), Room k (A.deeper (envOfC qual (defScope st) s.heap.objs.size f cdv)) → sp vs H Q E →
      ∃ t, PSs (cxOf (CXF P w) P w K mg base N qual (defScope st) f cdv A outer s H E) (defBody st) t ∧ t { nx := fun _ H' => Q .non H', rt := Q } (start N vs) H) : FnOk P w K mg base (CXF P w) (k + 1) f fd ps sp := by
  obtain ⟨oc, od, kV, doc, pm, an, cdv, ct, osl, rfl, lk, hcd⟩ := F.ex
  exact fn_of lk hcd S len fun A outer s H vs Q E hr hsp => hbody cdv A outer s H vs Q E hr hsp
end L2

namespace L2
open PySem PySem.Spec PyProof.Rows PySem.W

section
variable {X : Cx} {pins : Pn} {σ : St} {H : Hp} {s : Shared} {a : Addr} {o : HO} {h' : Heap}
/-- an object that stood by itself is tracked from here on -/
theorem Inv.track (I : Inv X pins σ H s) (hn : H a = none) (pa : Apart X pins a) (new : ObjOk X.prog X.w (upd H a o) s.heap a o) : Inv X pins σ (upd H a o) s := by
  have ne : ∀ {b : Addr} {u : HO}, H b = some u → b ≠ a := fun e => ne_of_none e hn
  have old : ∀ b u, X.s₀.heap.get? b = some u → b ≠ a := fun b u q z => by rw [z, pa.new] at q; cases q
  refine ⟨I.ok, I.os, I.bare, ⟨I.base.keep, I.base.slot, fun b u q n hx => ?_, I.base.there, fun b xs q => ?_, fun b u v q => ?_, fun b ps q => ?_⟩, I.loc, I.cell, ?_, fun x c e => ?_, fun p hp => ?_, fun b u q => ?_, I.len⟩
  · rw [upd_ne (old b u q)]; exact I.base.free b u q n hx
  · have := I.base.tups b xs q
    rw [upd_ne (ne this)]; exact this
  · have := I.base.frzs b u v q
    rw [upd_ne (ne this)]; exact this
  · obtain ⟨m, e⟩ := I.base.tbls b ps q
    exact ⟨m, by rw [upd_ne (ne e)]; exact e⟩
  · rw [upd_ne pa.loc.symm]; exact I.free
  · rw [upd_ne (pa.cel x c e)]; exact I.freeC x c e
  · obtain ⟨q, n, r⟩ := I.pin p hp
    exact ⟨q, by rw [upd_ne (pa.pin p hp)]; exact n, r⟩
  · by_cases z : b = a
    · subst z
      rw [upd_same] at q
      cases q
      exact new
    · rw [upd_ne z] at q
      exact (I.hok b u q).stay (fun _ _ _ q => q) (fun c q => by rw [upd_ne (ne q)]; exact q) (fun c xs q => by rw [upd_ne (ne q)]; exact q)
/-- a local name is unbound -/
theorem Inv.unbound {i : Nat} {n : Str} {m : Str → Option Value} {u : Option Value} (I : Inv X pins σ H s) (hN : X.N.Nodup) (hi : X.N[i]? = some n) (hl : X.env.kindOf n = some .local) (hn : s.heap.Ns X.env.locals m)
    (hn' : h'.Ns X.env.locals (fun x => if x = n then u else m x)) (hs : Heap.SameBut X.env.locals s.heap h') : Inv X pins (σ.set i none) H { s with heap := h' } := by
  have old : ∀ b o, X.s₀.heap.get? b = some o → b ≠ X.env.locals := fun b o q z => by
    have h1 := Heap.lt_size q
    rw [z] at h1
    exact absurd h1 (Nat.not_lt.mpr I.ok.above)
  refine ⟨I.ok, I.os, I.bare, ⟨fun b o q n hf hx => ?_, fun b o q n hf hx => ?_, I.base.free, fun b o q hx => ?_, I.base.tups, I.base.frzs, I.base.tbls⟩, ⟨_, hn', fun k x v h1 h2 h3 => ?_⟩, fun x c e => ?_, I.free, I.freeC, fun p hp => ?_, ?_, ?_⟩
  · exact (hs.2 b (old b o q)).trans (I.base.keep b o q n hf hx)
  · obtain ⟨sl, e⟩ := I.base.slot b o q n hf hx
    exact ⟨sl, (hs.2 b (old b o q)).trans e⟩
  · obtain ⟨o', e⟩ := I.base.there b o q hx
    exact ⟨o', (hs.2 b (old b o q)).trans e⟩
  · have hk : i ≠ k := fun z => by
      subst z
      rw [List.getElem?_set_self' ] at h2
      cases hz : σ[i]? <;> rw [hz] at h2 <;> cases h2
    rw [List.getElem?_set_ne hk] at h2
    have hx : x ≠ n := fun z => by subst z; exact hk (nodup_ix hN hi h1)
    obtain ⟨m0, hn0, hm0⟩ := I.loc
    obtain ⟨z, r, l⟩ := hm0 k x v h1 h2 h3
    refine ⟨z, r, ?_⟩
    have hmm : m0 x = m x := by
      obtain ⟨o1, es1, ep1, a1, b1, _, c1⟩ := hn0
      obtain ⟨o2, es2, ep2, a2, b2, _, c2⟩ := hn
      rw [a1] at a2; cases a2
      rw [b1] at b2; cases b2
      rw [← c1, ← c2]
    rcases l with ⟨l1, l2⟩ | ⟨l1, c, l2, l3⟩
    · exact .inl ⟨l1, by show (if x = n then u else m x) = some z; rw [if_neg hx, ← hmm]; exact l2⟩
    · exact .inr ⟨l1, c, l2, l3.sameBut hs (I.cne x c l2)⟩
  · obtain ⟨v, q⟩ := I.cell x c e
    exact ⟨v, q.sameBut hs (I.cne x c e)⟩
  · obtain ⟨q, n, nl, r⟩ := I.pin p hp
    exact ⟨(hs.2 _ nl).trans q, n, nl, r⟩
  · exact I.hok.only fun b o hb q => (hs.2 b fun z => hb (by rw [z]; exact I.free)).trans q
  · rw [List.length_set]; exact I.len

/-- an exception as a thing: its class -/
def ExcO (a C : Addr) : HO := .ext fun h => ∃ o, h.get? a = some o ∧ o.cls = .ref C
/-- where a try's body stops with an exception -/
def xeC (X : Cx) (E : XK) (pins : Pn) (σ : St) (e : Value) (s : Shared) : Prop :=
  ∃ a C T H, e = .ref a ∧ Inv X pins σ H s ∧ Apart X pins a ∧ Apart X pins T ∧ Fly X.s₀.heap H s.heap a C T ∧ E (.ref C) none H
def PEX (X : Cx) (E : XK) (e : Expr) (t : TE) : Prop :=
  ∀ (pins : Pn) (s : Shared) (σ : St) (H : Hp) (Q : VK), Inv X pins σ H s → t σ H Q → wpAny (model X.prog X.w) X.A (eval e X.env) (EP X pins σ Q) (xeC X E pins σ) s
def PX (X : Cx) (E : XK) (st : Stmt) (t : TS) : Prop :=
  ∀ (pins : Pn) (s : Shared) (σ : St) (H : Hp) (D : Ends), Inv X pins σ H s → t D σ H → wpAny (model X.prog X.w) X.A (exec st X.env) (SP X pins D) (xeC X E pins σ) s
def PXs (X : Cx) (E : XK) (st : List Stmt) (t : TS) : Prop :=
  ∀ (pins : Pn) (s : Shared) (σ : St) (H : Hp) (D : Ends), Inv X pins σ H s → t D σ H → wpAny (model X.prog X.w) X.A (execs st X.env) (SP X pins D) (xeC X E pins σ) s
end
section
variable {X : Cx} {CX : CXT} {k : Nat} {f C : Addr} {fd : FuncData} {ps : List Str} {sp : Sp} {dvs : List V} {ds : List Value} {E : XK} {x m : Str} {p pos apos : Pos} {e o : Expr} {es : List Expr} {ta te : TE} {t : TA} {tt : TT} {st : Stmt} {sts sts' : List Stmt} {ts us : TS}
theorem xe_call {pins : Pn} {σ : St} {H : Hp} {s s' : Shared} {v : Value} (hx : X.ex = []) (I : Inv X pins σ H s) (h : CXF X.prog X.w X.stack H s E v s') : xeC X E pins σ v s' := by
  obtain ⟨a, C, T, H', rfl, os, bare, un, hok, fl, q⟩ := h
  have I' := I.call' (ch := []) os un hok bare (fun b z => absurd z (by simp))
  have pe := I.apart hx fl.newE
  have pT := I.apart hx fl.newT
  exact ⟨a, C, T, H', rfl, I', pe, pT, ⟨pe.new, pT.new, fl.frE, fl.frT, fl.ne, fl.obj⟩, q⟩
theorem run_fnX {pins : Pn} {σ : St} {H : Hp} {s : Shared} {Q : VK} {us : List Value} {vs : List V} (F : FnOk X.prog X.w X.K X.mg X.base (CXF X.prog X.w) k f fd ps sp) (hr : Room k X.A) (hb : Binds X.K fd ps ds) (hd : Vals dvs ds) (hx : X.ex = [])
    (I : Inv X pins σ H s) (r : Vals vs us) (h : sp (vs ++ dvs) H Q E) : wpAny (model X.prog X.w) X.A (call (.ref f) us) (EP X pins σ Q) (xeC X E pins σ) s := by
  have r2 : Vals (vs ++ dvs) (us ++ ds) := r.append hd
  have hl : (us ++ ds).length = ps.length := by rw [← r2.length]; exact F.len _ _ _ _ h
  refine wpAny_call (codeAny_mono (F.run X.A X.stack s H ⟨us, []⟩ (us ++ ds) (vs ++ dvs) Q E hr I.env0 (hb s us I.kIn hl) r2 h) fun r s' hq => ?_)
  cases r with
  | error e => exact xe_call hx I hq
  | ok fl =>
    cases fl with
    | ret u => exact I.after hq
    | next => exact False.elim hq
    | brk => exact False.elim hq
    | cont => exact False.elim hq
theorem pa_nox {pins : Pn} {s : Shared} {σ : St} {H : Hp} {Q : List V → Hp → Prop} {EE : Value → Shared → Prop} (ha : PA X.nox es t) (I : Inv X pins σ H s) (h : t σ H Q) : wpAny (model X.prog X.w) X.A (spliced (backTo pos (starEach es X.env))) (AP X pins σ Q) EE s :=
  wpAny_mono (ha pos pins s σ H Q (I.wish _) h) (fun _ _ ⟨v, H', I', r, q⟩ => ⟨v, H', I'.unwish, r, q⟩) fun _ _ z => False.elim z
theorem pex_call (F : FnOk X.prog X.w X.K X.mg X.base (CXF X.prog X.w) k f fd ps sp) (hr : Room k X.A) (hg : Gl X x) (hm : X.mg x = some (.ref f)) (hk : PySem.W.keepIn X.K (.ref f) = true) (hb : Binds X.K fd ps ds) (hd : Vals dvs ds) (hx : X.ex = [])
    (ha : PA X.nox (e :: es) t) (hdb : (x == ("__debug__" : Str)) = false := by decide) (he : starEach (e :: es) X.env = (false, eval e X.env) :: starEach es X.env := by rfl) (hpl : (backTo pos (starEach es X.env)).any (·.1) = false := by rfl) :
    PEX X E (.Call (.Name x p) (e :: es) [] pos) (tCall sp dvs E t) := by
  intro pins s σ H Q I h
  refine wpAny_Call_Name_kw (ld_glob I hg hm ?_ hdb)
  refine PySem.W.callWith_K (h₀ := X.base) I.ok.mod.kin hk (thn (pa_nox ha I h) fun us s1 ⟨vs, H1, I1, r, q⟩ => ⟨I1.kIn, ?_⟩) he hpl
  exact run_fnX F hr hb hd hx I1 r q
theorem px_set {i : Nat} {pos' : Pos} (hN : X.N.Nodup) (hi : X.N[i]? = some x) (hx : Loc X.env.scope x) (he : PEX X E e te) (hs : swapsWith e (some (.Name x pos')) pos.line X.env = pure false := by rfl) (hf : X.fn x = true ∨ X.env.scope.names.lookup x = some .local := by first | exact .inl rfl | exact .inr rfl | assumption) :
    PX X E (.Assign [.Name x pos'] e pos) (tAsg te (gName i)) := by
  intro pins s σ H D I h
  refine wpAny_Assign_Name (thn (he pins s σ H _ I h) fun v s1 ⟨y, H1, I1, r1, q1⟩ => ?_) hs
  exact store_ok I1 hN hi hx r1 (fun s2 I2 => ⟨_, H1, I2, q1⟩) hf
theorem pxs_one (h1 : PX X E st ts) : PXs X E [st] ts := by
  intro pins s σ H D I h
  refine wpAny_execs_cons (thn (h1 pins s σ H D I h) fun f s1 q => ?_)
  cases f with
  | next => exact wpAny_execs_nil q
  | ret v => exact q
  | brk => exact q
  | cont => exact q
end

/-! ### try: .. except C as n: y = n -/
def tTry (i j : Nat) (E : XK) (tb : TS) : TS := fun D σ H => tb D σ H ∧ ∀ a C H', H' a = none → E (.ref C) none H' → D.nx (((σ.set i (some (.ref a))).set j (some (.ref a))).set i none) (upd H' a (ExcO a C))
section
variable {X : Cx} {E : XK} {i j : Nat} {x n y : Str} {HE : Addr} {body : List Stmt} {tb : TS} {xp yp np ap hp pos : Pos}
theorem ps_try (hex : X.ex = []) (hst : X.stack = X.env :: X.outer) (hf : X.env.frame = some X.env.locals) (hN : X.N.Nodup) (hi : X.N[i]? = some n) (hj : X.N[j]? = some y) (hij : i ≠ j)
    (ln : X.env.scope.names.lookup n = some .local) (ly : X.env.scope.names.lookup y = some .local) (hg : Gl X x) (hm : X.mg x = some (.ref HE)) (hE : ∀ C H, E (.ref C) none H → exmOne X.K (.ref C) (.ref HE) = some true)
    (hb : PXs X E body tb) (hs : swapsWith (.Name n np) (some (.Name y yp)) ap.line X.env = pure false := by rfl) (hdb : (x == ("__debug__" : Str)) = false := by decide) (hdn : (n == ("__debug__" : Str)) = false := by decide) :
    PS X (.Try body [.ExceptHandler (some (.Name x xp)) (some n) [.Assign [.Name y yp] (.Name n np) ap] hp] [] [] pos) (tTry i j E tb) := by
  intro pins s σ H D I h
  obtain ⟨hq, hc⟩ := h
  refine wpAny_Try_except (wpAny_mono (hb pins s σ H D I hq) (fun f s1 q => ?_) fun v s1 q => ?_)
  · cases f with
    | next => exact wpAny_execs_nil q
    | ret v => exact q
    | brk => exact q
    | cont => exact q
  · obtain ⟨a, C, T, H', rfl, I1, pa, pT, ⟨nE, nT, fE, fT, ne, oe, vs, a0, oT, ts, he, hcl, hd, h0, h1, hT, hdT, h3⟩, hq1⟩ := q
    have hfr : X.A.frames = some (X.env :: X.outer) := by rw [I1.ok.frames, hst]
    have flW : Heap.FlyingW (hideAll s1.heap (frs X.stack ++ [a, T])) (X.env :: X.outer) a (.ref C) a0 s1.heap := by
      have st := I1.stack
      rw [hst] at st
      exact ⟨fun b o q => of_hideAll _ q, hideAll_none _ (by simp), funFrames_hide st fun env he a hf => List.mem_append_left _ (by rw [hst]; exact mem_frs env he a hf),
        oe, vs, T, oT, ts, he, ⟨hcl, h0⟩, hd, h1, hideAll_none _ (by simp), ne, hT, hdT, h3⟩
    have inv : ∀ (h' : Heap) (t' : Nat), (hideAll s1.heap (frs X.stack ++ [a, T])).StaysIn h' → s1.heap.UpToSlots h' → Inv X pins σ H' { s1 with heap := h', toks := t' } := fun h' t' k u =>
      Inv.flown (ch := [a, T]) I1 (fun b hb => by
        rcases List.mem_cons.mp hb with rfl | hb
        · exact ⟨pa, fE⟩
        · obtain rfl := List.mem_singleton.mp hb; exact ⟨pT, fT⟩) (fun b o q n1 n2 => k b o (hideAll_get _ q fun z => (List.mem_append.mp z).elim n1 n2)) u
    refine wpAny_looks_onW hfr hf flW fun h4 held4 u4 => wpAny_landsW (s := { s1 with heap := h4 }) held4 fun h5 fl5 u5 => ?_
    have I5 := inv h5 s1.toks fl5.1 (u4.trans u5)
    obtain ⟨ob, hob, hobc⟩ := fl5.there
    refine wpAny_handleBy_cons (codeAny_handlers_test ?_) (by intro q; cases q)
    refine Calls.Name_function_global I5.ok.kind hg (Calls.loadGlobal_global (by rw [I5.ok.glob]; exact I5.mod.glob.keeps I5.bk) hm ?_) hdb
    have LT : Looks (model X.prog X.w) h5 (typeOf (.ref a)) (.ref C) := by
      rw [← hobc]
      exact (Looks.ld hob).andThen .now
    refine (exm_one (M := model X.prog X.w) I5.kIn LT (hE C H' hq1)).here ?_
    refine codeAny_handlers_suite_as (lands_againW fl5 fun h6 fl6 u6 => ?_)
    have I6 : Inv X pins σ (upd H' a (ExcO a C)) { s1 with heap := h6 } := by
      refine (inv h6 s1.toks fl6.1 ((u4.trans u5).trans u6)).track fE pa ?_
      obtain ⟨o6, e6, c6⟩ := fl6.there
      exact ⟨⟨o6, e6, c6⟩, ⟨o6, e6⟩, fun h1 h2 ⟨o, q, c⟩ k => ⟨o, k o q, c⟩⟩
    refine store_ok I6 hN hi (.inl ln) (v := .ref a) rfl (fun s7 I7 => ?_) (.inr ln)
    have hil : i < σ.length := by rw [I1.len]; exact (List.getElem?_eq_some_iff.mp hi).1
    obtain ⟨m7, hn7, hm7⟩ := id I7.loc
    obtain ⟨u7, r7, l7⟩ := hm7 i n (.ref a) hi (by rw [List.getElem?_set_self hil]) (.inl ln)
    obtain rfl : u7 = Value.ref a := r7
    have l7' : m7 n = some (.ref a) := by
      rcases l7 with l | ⟨l | l, _⟩
      · exact l.2
      · rw [show X.env.kindOf n = some .local from ln] at l; cases l
      · rw [show X.env.kindOf n = some .local from ln] at l; cases l
    refine wpAny_execs_cons (wpAny_Assign_Name (wpAny_Name (wpAny_loadName_local I7.ok.kind ln hn7 l7' ?_) hdn) hs)
    refine store_ok I7 hN hj (.inl ly) (v := .ref a) rfl (fun s8 I8 => ?_) (.inr ly)
    refine wpAny_execs_nil ?_
    show wpAny _ X.A (do bindName X.env n .none; unbindBehindTheSuite X.env n hp) _ _ s8
    refine wpAny_bind (wpAny_bindName (store_ok I8 hN hi (.inl ln) (v := .non) rfl (fun s9 I9 => ?_) (.inr ln)))
    obtain ⟨m9, hn9, hm9⟩ := id I9.loc
    have hil9 : i < ((σ.set i (some (V.ref a))).set j (some (V.ref a))).length := by rw [List.length_set, List.length_set]; exact hil
    obtain ⟨u9, r9, l9⟩ := hm9 i n .non hi (by rw [List.getElem?_set_self hil9]) (.inl ln)
    have l9' : m9 n = some u9 := by
      rcases l9 with l | ⟨l | l, _⟩
      · exact l.2
      · rw [show X.env.kindOf n = some .local from ln] at l; cases l
      · rw [show X.env.kindOf n = some .local from ln] at l; cases l
    unfold unbindBehindTheSuite
    refine wpAny_onRaise (wpAny_unbindName_local ln hn9 l9' (by rw [I9.ok.kind]; rfl) fun h' u hn' hs' => ?_)
    have I10 := I9.unbound hN hi ln hn9 hn' hs'
    rw [List.set_set] at I10
    exact ⟨_, _, I10, hc a C H' fE hq1⟩
end
end L2

namespace L2
open PySem PySem.Spec PyProof.Rows PySem.W

/-! ### f"..": texts and whole numbers; what comes out is some text -/
abbrev TJ := Nat → St → Hp → (Hp → Prop) → Prop
def PJ (X : Cx) (es : List Expr) (t : TJ) : Prop :=
  ∀ (pins : Pn) (s : Shared) (σ : St) (H : Hp) (Q : Hp → Prop) (out : Str) (n : Nat), Inv X pins σ H s → out.length ≤ n → t n σ H Q →
    wpAny (model X.prog X.w) X.A (joinParts out (evalEach es X.env)) (EP X pins σ fun v H' => (∃ y, v = .str y) ∧ Q H') X.xe s
def jNil : TJ := fun n _ H Q => n ≤ sizeLine ∧ Q H
def jStr (k : Nat) (t : TJ) : TJ := fun n σ H Q => n + k ≤ sizeLine ∧ t (n + k) σ H Q
def jInt (te : TE) (t : TJ) : TJ := fun n σ H Q => n + 2000 ≤ sizeLine ∧ te σ H fun v H1 => ∃ i, v = .int i ∧ i.natAbs.log2 < 1900 ∧ t (n + 2000) σ H1 Q
def tFS (t : TJ) : TE := fun σ H Q => t 0 σ H fun H' => ∀ y, Q (.str y) H'
section
variable {X : Cx} {e v₁ v₂ : Expr} {es rest : List Expr} {te : TE} {t : TJ} {x : Str} {j pos pos'}
theorem pj_nil : PJ X [] jNil := fun pins s σ H Q out n I ho h =>
  joinParts_nil (show EP X pins σ _ (.str out s.toks) { s with toks := s.toks + 1 } from ⟨.str out, H, I.tok _, ⟨_, rfl⟩, ⟨out, rfl⟩, h.2⟩) (Nat.le_trans ho h.1)
theorem pj_str (h : PJ X es t) : PJ X (.Constant (.str x) j pos :: es) (jStr x.length t) := by
  intro pins s σ H Q out n I ho hq
  refine joinParts_cons (Calls.Constant_str ?_)
  have hl : (out ++ x).length ≤ n + x.length := by rw [strLen_append]; omega
  exact ⟨Nat.le_trans hl hq.1, h pins _ σ H Q _ _ (I.tok _) hl hq.2⟩
theorem pj_int (he : PE X e te) (h : PJ X es t) : PJ X (.FormattedValue e (-1) none pos :: es) (jInt te t) := by
  intro pins s σ H Q out n I ho hq
  refine joinParts_cons (FormattedValue_plain (thn (he pins s σ H _ I hq.2) fun v s1 ⟨y, H1, I1, r, i, e1, hi, q⟩ => ?_))
  subst e1
  obtain ⟨tk, rfl⟩ := (show ∃ t, v = Value.int i t from r)
  refine formatField_int_small (by omega) ?_
  have hl : (out ++ Str.ofString (toString i)).length ≤ n + 2000 := by
    have := int_text_length_le (k := 1900) (by decide) hi
    rw [strLen_append, PySem.ofString_length]
    omega
  exact ⟨Nat.le_trans hl hq.1, h pins _ σ H1 Q _ _ (I1.tok _) hl q⟩
theorem pe_fstr (h : PJ X (v₁ :: v₂ :: rest) t) : PE X (.JoinedStr (v₁ :: v₂ :: rest) pos) (tFS t) := fun pins s σ H Q I hq =>
  JoinedStr_many (thn (h pins s σ H _ Str.empty 0 I (Nat.le_refl _) hq) fun u s1 ⟨v, H1, I1, r, ⟨y, e⟩, q⟩ => ⟨v, H1, I1, r, by rw [e]; exact q y⟩)
end
end L2

namespace L2
open PySem PySem.Spec PyProof.Rows PySem.W PySem.Builtin.ObjectAttr PySem.Builtin.Getset_descriptor

/-! ### isinstance of an exception -/
/-- what an own class of exceptions must have, for isinstance -/
structure ExcI (K : Frag) (C : Addr) : Prop where
  ga : findIn K (.ref C) "__getattribute__" = some (some (.builtin "BaseException.__getattribute__"))
  gt : findIn K (.ref C) "__getattr__" = some none
  sub : subIn K (.ref C) (.type "BaseException") = some true
  fd : findIn K (.ref C) "__class__" = some (some (.builtin "object.__class__"))
  get : specialIn K (.builtin "object.__class__") "__get__" = some (some (.builtin "getset_descriptor.__get__"))
  take : takesIn K (.builtin "object.__class__") = some true
  mro : mroIn K C (.type "object") = some true
  cl : (clsIn K C).isSome = true
def IsX (x C : Addr) (h : Heap) : Prop := ∃ o, h.get? x = some o ∧ o.cls = .ref C
section
variable {prog : Program} {w : World} {A : Around} {E : Value → Shared → Prop} {s : Shared} {K : Frag} {x C : Addr} {M : Model}
theorem IsX.ty {h : Heap} (I : IsX x C h) : Looks M h (typeOf (.ref x)) (.ref C) := by
  obtain ⟨o, h1, h2⟩ := I
  exact h2 ▸ (Looks.ld h1).andThen .now
theorem xcls_get {tp : Value} {R : Result → Shared → Prop} (X : K.In s.heap) (I : IsX x C s.heap) (hm : mroIn K C (.type "object") = some true)
    (h : R (.ok (.ret (.ref C))) s) : codeAny (model prog w) A (.call (.builtin "getset_descriptor.__get__") ⟨[.builtin "object.__class__", .ref x, tp], []⟩) R s := by
  obtain ⟨hh, g, dr, t, os⟩ := s
  have L0 := I.ty (M := model prog w)
  have L1 := looks_mroIn (M := model prog w) X hm
  refine codeAny_call_builtin KF.slot_gs.plain KF.entry_gs (KF.slot_gs.check _ _ _ _ _ _ _ _ KF.type_class (KF.args_gs _ _ _) ?_)
  unfold Builtin.«getset_descriptor.__get__» descrGet
  rw [dga_obj]
  refine wpAny_bind (wpAny_pure ?_)
  unfold descrGetter descrCheckInstance descrNameAndClass isInstance
  simp only [KF.owner_class]
  repeat lk
  refine ⟨Code.quiet_builtin _ (by decide +kernel), codeAny_builtin KF.entry_class ?_⟩
  unfold Builtin.«object.__class__» shownTypeOf
  repeat lk
  exact h
theorem xcls_find {h : Heap} (X : K.In h) (c : ExcI K C) : Looks M h (find (.ref x) (.ref C) "__class__") (.bind (.builtin "getset_descriptor.__get__") (.builtin "object.__class__")) := by
  have L1 := looks_findIn (M := M) X c.fd
  have L2 : Looks M h (getOf (some (.builtin "object.__class__"))) (some (.builtin "getset_descriptor.__get__")) := looks_specialIn X c.get
  have L3 := looks_takesIn (M := M) X c.take
  refine L1.andThen (L2.andThen ?_)
  have L4 : Looks M h (dataDescriptor? (some (.builtin "object.__class__")) (some (.builtin "getset_descriptor.__get__"))) (some (.builtin "getset_descriptor.__get__", .builtin "object.__class__")) := L3.andThen .now
  exact L4.andThen (Looks.tag .now)
theorem xcls_entry {tk : Tok} {Q : Fin → Shared → Prop} (X : K.In s.heap) (I : IsX x C s.heap) (c : ExcI K C) (hq : Q (.done (.ret (.ref C))) s) :
    wpAny (model prog w) A (Builtin.«object.__getattribute__» ⟨[.ref x, .str "__class__" tk], []⟩) Q E s := by
  obtain ⟨hh, gg, d, t, os⟩ := s
  have L0 := I.ty (M := model prog w)
  have L1 := xcls_find (M := model prog w) (x := x) X c
  unfold Builtin.«object.__getattribute__»
  refine wpAny_bind (wpAny_pure ?_)
  refine wpAny_bind (wpAny_pure ?_)
  refine wpAny_bind (L0.at (wpAny_bind (L1.at ?_)))
  show wpAny _ _ (holding [_] (call (.builtin "getset_descriptor.__get__") [.builtin "object.__class__", .ref x, .ref C]) >>= ret) _ _ _
  exact wpAny_bind (wpAny_holding (wpAny_call (xcls_get (s := ⟨hh, gg, d, t, os⟩) X I c.mro (wpAny_pure hq))))
theorem xcls_check {nameV : Value} {Q : Unit → Shared → Prop} (X : K.In s.heap) (I : IsX x C s.heap) (c : ExcI K C) (hq : Q () s) :
    wpAny M A (checkBuiltinCall "BaseException.__getattribute__" ⟨[.ref x, nameV], []⟩) Q E s := by
  obtain ⟨hh, gg, d, t, os⟩ := s
  have hk : builtinKind "BaseException.__getattribute__" = some .slot := by decide +kernel
  have hsplit : splitId "BaseException.__getattribute__" = some ("BaseException", "__getattribute__") := by decide +kernel
  have ha := F.args_bexc_ga (.ref x) nameV
  have L0 := I.ty (M := M)
  have L1 := looks_subIn (M := M) X c.sub
  simp only [checkBuiltinCall, hk, hsplit]
  refine wpAny_bind ?_
  have LI : Looks M hh (isInstance (.ref x) (.type "BaseException")) true := L0.andThen L1
  refine LI.at ?_
  repeat (first | wp_step)
  exact hq
theorem xcls_ca {Q : Option Value → Shared → Prop} (X : K.In s.heap) (I : IsX x C s.heap) (c : ExcI K C) (h : Q (some (.ref C)) { s with toks := s.toks + 1 }) : wpAny (model prog w) A (getAttr? (.ref x) "__class__") Q E s := by
  obtain ⟨hh, g, d, t, os⟩ := s
  have L0 := I.ty (M := model prog w)
  have L1 := looks_findIn (M := model prog w) X c.ga
  have L2 := looks_findIn (M := model prog w) X c.gt
  unfold getAttr? getAttrBy? getAttrBy
  refine wpAny_bind (wpAny_mkText (wpAny_bind (wpAny_attempt (wpAny_holding (wpAny_bind (L0.at (wpAny_bind (L1.at ?_))))))))
  have hx1 : (onTheHeap (Value.ref C) && Value.builtin "BaseException.__getattribute__" == Value.builtin "object.__getattribute__") = false := by
    rw [show (Value.builtin "BaseException.__getattribute__" == Value.builtin "object.__getattribute__") = false from by decide +kernel, Bool.and_false]
  show wpAny _ _ (if (onTheHeap (Value.ref C) && Value.builtin "BaseException.__getattribute__" == Value.builtin "object.__getattribute__") = true then _ else _) _ _ _
  rw [hx1, if_neg Bool.false_ne_true]
  have f3 := F.attr_ValueError.ga.bind (.ref x)
  unfold getAttrByItsOwn hookBefore callGetattribute boundAndCalled
  refine wpAny_bind (L2.at (wpAny_bind (wpAny_attempt (wpAny_holding ?_))))
  show wpAny _ _ (bindSpecial _ _ >>= _) _ _ _
  rw [f3]
  refine wpAny_bind (wpAny_pure ?_)
  show wpAny _ _ (call (.builtin "BaseException.__getattribute__") [.ref x, .str "__class__" t]) _ _ _
  refine wpAny_call (codeAny_call_builtin F.attr_ValueError.ga.plain F.entry_bexc_ga (xcls_check (s := ⟨hh, g, d, t + 1, os⟩) X I c (xcls_entry (s := ⟨hh, g, d, t + 1, os⟩) X I c ?_)))
  exact handed_on rfl (wpAny_pure h)
theorem kitx_exc (c : ExcI K C) : KitX K (.ref x) (.ref C) (IsX x C) where
  ty := fun _ _ _ I => I.ty
  it := fun _ _ X _ => by
    obtain ⟨cdD, hcD⟩ := Option.isSome_iff_exists.mp c.cl
    unfold clsIn at hcD
    split at hcD
    · rename_i c' d' cd' sl' ho
      intro A' Q' E' s' k q
      unfold isType loadHead
      exact wpAny_bind (wpAny_loadPart (k _ _ (X _ _ ho)) (wpAny_pure q))
    · cases hcD
  ne := fun h tp dd its n sl X htp => by
    obtain ⟨cdD, hcD⟩ := Option.isSome_iff_exists.mp c.cl
    refine Bool.eq_false_iff.mpr fun q => ?_
    have e : C = tp := Value.ref.inj (beq_iff_eq.mp q)
    subst e
    unfold clsIn at hcD
    split at hcD
    · rename_i c' d' cd' sl' ho
      have z := (X _ _ ho).symm.trans htp
      cases z
    · cases hcD
  ca := fun X I k => xcls_ca X I c k
end
section
variable {X : Cx}
/-- a class, as a value -/
def clsV : V → Option Value
  | .ref c => some (.ref c)
  | .ty T => some (.type T)
  | _ => none
/-- isinstance(e, C): e an exception of the own class at Ce -/
theorem call_isiX : CallR X (.builtin "isinstance") (fun xs H Q => ∃ a Ce v c b, xs = [.ref a, v] ∧ H a = some (ExcO a Ce) ∧ ExcI X.K Ce ∧ clsV v = some c ∧ kitOne X.K (.ref Ce) c = some b ∧ Q (.bl b) H) := by
  intro pins s σ H xs us Q I r h
  obtain ⟨a, Ce, v, c, b, rfl, ha, hc, hv, e, q⟩ := h
  obtain ⟨u, w', rfl, rx, rT⟩ := vals2 r
  obtain rfl : u = Value.ref a := rx
  have hw : w' = c := by
    cases v <;> simp only [clsV] at hv <;> cases hv <;> exact rT
  subst hw
  exact kia_one (kitx_exc hc) I.kIn (I.hok a _ ha).1 e (fun z => nomatch z) fun tk => ⟨.bl b, H, I.tok tk, rfl, q⟩
end
end L2

namespace L2
open PySem PySem.Spec PyProof.Rows PySem.W
theorem eqGives_bool (a b : Bool) : MeetsSeq.EqGives (.bool a) (.bool b) (a == b) := fun prog w _ E _ Q h => SeqAt.EqAt.bool_bool a b prog w E Q h
section
variable {X : Cx}
/-- xs.count(True), xs a list of truth values -/
def rCount : V → List V → Hp → VK → Prop := fun x vs H Q => ∃ (l : Addr) (bs : List Bool), x = .ref l ∧ vs = [.bl true] ∧ H l = some (.lst (bs.map V.bl)) ∧ Q (.int (bs.countP id : Nat)) H
theorem vals_bl : ∀ {bs : List Bool} {its : List Value}, Vals (bs.map V.bl) its → its = bs.map Value.bool
  | [], _, .nil => rfl
  | _ :: _, _, .cons r t => by rw [vals_bl t]; cases r; rfl
theorem mt_count : MtM X "list.count" rCount := by
  intro pins s σ H x vs v us Q I rx rv h
  obtain ⟨l, bs, rfl, rfl, hH, q⟩ := h
  cases rx
  obtain ⟨u, rfl, ru⟩ := rv.one
  cases ru
  obtain ⟨z, its, c, r, hl, e⟩ := I.lstM hH
  obtain rfl := vals_bl r
  refine call_meets F.slot_list_count ⟨_, e, rfl⟩ F.entry_list_count (F.args_list_count_2 _ _)
    (MeetsSeq.list_count l (bs.map Value.bool).toArray c (.bool true) (fun y => y == .bool true) (fun y hy => ?_)) ⟨e, ?_⟩
  · obtain ⟨b, _, rfl⟩ := List.mem_map.mp (List.mem_toArray.mp hy)
    have := eqGives_bool b true
    cases b <;> exact this
  · have hc : List.countP (fun y => y == Value.bool true) (bs.map Value.bool).toArray.toList = bs.countP id := by
      show List.countP _ (bs.map Value.bool) = _
      rw [List.countP_map]
      congr 1
      funext b
      cases b <;> rfl
    refine ⟨.int (bs.countP id : Nat), H, I.tok _, ⟨s.toks, ?_⟩, q⟩
    rw [hc]
end
/-- THE RULE for a def with defaults that may refuse -/
theorem FunD.okX {x qual : Str} {st : Stmt} {f : Addr} {fd : FuncData} {ds : List Value} {N ps : List Str} {k : Nat} {sp : Sp} (F : FunD K x qual st f fd ds) (S : FnScope N ps (defScope st)) (len : ∀ vs H Q E, sp vs H Q E → vs.length = ps.length)
    (hbody : ∀ (cdv : Value) (A : Around) (outer : List Env) (s : Shared) (H : Hp) (vs : List V) (Q : VK) (E : XK), Room k (A.deeper (envOfC qual (defScope st) s.heap.objs.size f cdv)) → sp vs H Q E →
      ∃ t, PSs (cxOf (CXF P w) P w K mg base N qual (defScope st) f cdv A outer s H E) (defBody st) t ∧ t { nx := fun _ H' => Q .non H', rt := Q } (start N vs) H) : FnOk P w K mg base (CXF P w) (k + 1) f fd ps sp := by
  obtain ⟨oc, od, T, kV, doc, pm, an, cdv, ct, osl, oT, n, rfl, lk, hcd, _⟩ := F.ex
  exact fn_of lk hcd S len fun A outer s H vs Q E hr hsp => hbody cdv A outer s H vs Q E hr hsp
end L2

/-! PROMISES of what may refuse; THE CLASSES of refusals -/
namespace LW
open PySem L2 PySem.W
def DefX (P : Program) (w : World) (K : Fg) (mg : Str → Option Value) (base : Heap) (k : Nat) (x : Str) (ps : List Str) (sp : Sp) (dss : List (List Value)) : Prop :=
  ∃ f fd, mg x = some (.ref f) ∧ PySem.W.keepIn K (.ref f) = true ∧ FnOk P w K mg base (CXF P w) k f fd ps sp ∧ ∀ ds ∈ dss, Binds K fd ps ds
/-- the eight classes at Xs, beneath the one at XH -/
structure XC (K : Fg) (XH : Addr) (Xs : List Addr) : Prop where
  nd : Xs.Nodup
  exc : ∀ D ∈ Xs, Exc K D
  isi : ∀ D ∈ Xs, ExcI K D
  one : ∀ D ∈ Xs, ∀ D' ∈ Xs, kitOne K (.ref D) (.ref D') = some (D == D')
  house : ∀ D ∈ Xs, kitOne K (.ref D) (.ref XH) = some true
  value : ∀ D ∈ Xs, kitOne K (.ref D) (.type "ValueError") = some true
  mat : ∀ D ∈ Xs, exmOne K (.ref D) (.ref XH) = some true
/-- just one of the eight -/
theorem countOne {Xs : List Addr} (nd : Xs.Nodup) {D : Addr} (h : D ∈ Xs) : (Xs.map fun D' => D == D').countP id = 1 := by
  rw [List.countP_map]
  have e : (id ∘ fun D' : Addr => D == D') = (fun D' : Addr => D' == D) := by
    funext z; show (D == z) = (z == D); exact BEq.comm
  rw [e]
  have := nd.count (a := D)
  rw [if_pos h] at this
  exact this
section
variable {X : Cx} {n : Nat} {x m : Str} {ps : List Str} {sp : Sp} {dss : List (List Value)} {e o : Expr} {es : List Expr} {t : TA} {ta : TE} {p pos apos : Pos} {C : Addr} {E : XK}
theorem qcx (D : DefX X.prog X.w X.K X.mg X.base n x ps sp ([] :: dss)) (tx : Throws X E) (hr : Room n X.A) (ha : PA X (e :: es) t) (hg : Gl X x := by rfl) (hdb : (x == ("__debug__" : Str)) = false := by decide) (he : starEach (e :: es) X.env = (false, eval e X.env) :: starEach es X.env := by rfl) (hpl : (backTo pos (starEach es X.env)).any (·.1) = false := by rfl) :
    PE X (.Call (.Name x p) (e :: es) [] pos) (tCall sp [] E t) := let ⟨_, _, a, k, F, b⟩ := D; pe_call F hr hg a k (b [] List.mem_cons_self) .nil (tx.passes (fun _ _ z => z)) ha hdb he hpl
end
end LW

/-! the classes' facts, put together -/
namespace LW
open PySem L2 PySem.W
theorem ExcI.of {K : Fg} {C : Addr} (ga : findIn K (.ref C) "__getattribute__" = some (some (.builtin "BaseException.__getattribute__"))) (gt : findIn K (.ref C) "__getattr__" = some none) (sub : subIn K (.ref C) (.type "BaseException") = some true) (fd : findIn K (.ref C) "__class__" = some (some (.builtin "object.__class__")))
    (get : specialIn K (.builtin "object.__class__") "__get__" = some (some (.builtin "getset_descriptor.__get__"))) (take : takesIn K (.builtin "object.__class__") = some true) (mro : mroIn K C (.type "object") = some true) : ExcI K C := by
  refine ⟨ga, gt, sub, fd, get, take, mro, ?_⟩
  unfold mroIn at mro
  cases h : clsIn K C with
  | none => rw [h] at mro; cases mro
  | some c => rfl
theorem m8 {p : Addr → Prop} {a b c d e f g h : Addr} (h1 : p a) (h2 : p b) (h3 : p c) (h4 : p d) (h5 : p e) (h6 : p f) (h7 : p g) (h8 : p h) : ∀ D ∈ [a, b, c, d, e, f, g, h], p D := by
  intro D hD
  simp only [List.mem_cons, List.not_mem_nil, or_false] at hD
  rcases hD with rfl | rfl | rfl | rfl | rfl | rfl | rfl | rfl <;> assumption
theorem DefX.mono {j k : Nat} {x : Str} {ps : List Str} {sp : Sp} {dss : List (List Value)} (h : DefX P w K mg base j x ps sp dss) (hk : j ≤ k) : DefX P w K mg base k x ps sp dss :=
  let ⟨f, fd, a, q, b, c⟩ := h; ⟨f, fd, a, q, b.mono hk, c⟩
section
variable {C : Addr}
end
section
variable {C : Addr}
end
section
variable {C : Addr}
end
end LW


namespace PySem
open Sem (wp)
namespace F
end F
section
variable {prog : Program} {w : World} {K : Type} [DecidableEq K] {knd : KeyKind prog w K} {A : Around} {R : Result → Shared → Prop} {d I l : Addr} {its : Array Value} {ps : List (K × Value)} {res : Value} {h0 : Heap}
end
end PySem

namespace L2
open PySem PySem.Spec PyProof.Rows PySem.W
section
variable {X : Cx} {pins : Pn} {σ : St} {H : Hp} {s : Shared}
end
end L2

/-! COMPREHENSIONS over pairs -/
namespace L2
open PySem PySem.Spec PyProof.Rows
section
variable {X : Cx} {pins : Pn} {σ : St} {H : Hp} {s : Shared} {sc : Scope} {x yy : Str} {N : List Str} {fr : List Nat} {C : Addr} {ex : List Addr}
end
section
variable {X : Cx} {elt iter : Expr} {x yy : Str} {px py tp pos : Pos} {tk : Nat} {ifs : List Expr} {sc : Scope} {N : List Str} {fr : List Nat} {wi : TI} {tc : TT} {te : TE}
end
end L2

/-! == of nested lists and tuples -/
namespace L2
open PySem PySem.Spec PyProof.Rows PySem.W
section
variable {X : Cx} {pins : Pn} {σ : St} {H : Hp} {s : Shared}
end
end L2

/-! != of nested lists -/
namespace L2
open PySem PySem.Spec PyProof.Rows PySem.W
section
variable {X : Cx} {pins : Pn} {σ : St} {H : Hp} {s : Shared}
end
end L2

namespace L2
open PySem PySem.Spec PyProof.Rows PySem.W
section
variable {X : Cx}
end
end L2

/-! WALKS -/
namespace LW
open PySem L2
theorem take_sn {α : Type} {l : List α} {i : Nat} {x : α} (h : l[i]? = some x) : l.take (i + 1) = l.take i ++ [x] := by rw [List.take_add_one, h]; rfl
/-- a thing under other names -/
def ren (f : Int → Int) : T → T
  | .box n => .box (f n)
  | t => t
abbrev Row := Str × List T
/-! ### a walk is closed -/
section
variable {bs : List Box} {n : Int}
end
/-! ### rows in the heap, and when they are the same -/
end LW

/-! A refusal by itself -/
namespace LW
open PySem L2 PySem.W
section
variable {C : Addr}
theorem keepN {H : Hp} {a l : Addr} {x u : HO} (ha : H a = some x) (hl : H l = none) : upd H l u a = some x := (upd_ne (ne_of_none ha hl)).trans ha
def spAlone (Xs : List Addr) : Sp := fun vs H Q _ => ∃ (a D : Addr), vs = [.ref a] ∧ H a = some (ExcO a D) ∧ D ∈ Xs ∧ ∀ H', Same H H' → Q (.bl true) H'
theorem ok_f_law_alone {f : Addr} (F : Fun K "_law_alone" "_law_alone" s_f_law_alone f fd) (T : TX K mg C) {C_8 C_0 C_1 C_2 C_3 C_4 C_5 C_6 C_7 : Addr} (gx_9 : mg "ValueError" = none) (gx_8 : mg "HouseError" = some (.ref C_8)) (gx_0 : mg "NoSlot" = some (.ref C_0)) (gx_1 : mg "NoGuard" = some (.ref C_1)) (gx_2 : mg "NoBox" = some (.ref C_2)) (gx_3 : mg "NoField" = some (.ref C_3)) (gx_4 : mg "NotThere" = some (.ref C_4)) (gx_5 : mg "AlreadyThere" = some (.ref C_5)) (gx_6 : mg "Crowded" = some (.ref C_6)) (gx_7 : mg "NoNote" = some (.ref C_7)) (Z : XC K C_8 [C_0, C_1, C_2, C_3, C_4, C_5, C_6, C_7])  :
    FnOk P w K mg base CX0 (n + 1) f fd ["e"] (spAlone [C_0, C_1, C_2, C_3, C_4, C_5, C_6, C_7]) := by
  refine F.ok sc_f_law_alone (by rintro _ _ _ _ ⟨_, _, rfl, _⟩; rfl) fun _ _ _ s H vs Q E hr h => ?_
  obtain ⟨a, D, rfl, ha, hD, k⟩ := h
  have hu := hu_of hr
  refine ⟨_, (pss_cons (ps_set (i := 1) sc_f_law_alone.nd rfl (Or.inl rfl) (pe_lst (pa_cons (pe_callB call_isiX (by rfl) T.g_isi PyProof.Rows.boot_isinstance (pa_cons (pv 0) (pa_cons (pe_glob (v := .ref C_0) (by rfl) gx_0 rfl) pa_nil))) (pa_cons (pe_callB call_isiX (by rfl) T.g_isi PyProof.Rows.boot_isinstance (pa_cons (pv 0) (pa_cons (pe_glob (v := .ref C_1) (by rfl) gx_1 rfl) pa_nil))) (pa_cons (pe_callB call_isiX (by rfl) T.g_isi PyProof.Rows.boot_isinstance (pa_cons (pv 0) (pa_cons (pe_glob (v := .ref C_2) (by rfl) gx_2 rfl) pa_nil))) (pa_cons (pe_callB call_isiX (by rfl) T.g_isi PyProof.Rows.boot_isinstance (pa_cons (pv 0) (pa_cons (pe_glob (v := .ref C_3) (by rfl) gx_3 rfl) pa_nil))) pa_nil))))))
    (pss_cons (ps_set (i := 1) sc_f_law_alone.nd rfl (Or.inl rfl) (pe_op op_cat (pv 1) (pe_lst (pa_cons (pe_callB call_isiX (by rfl) T.g_isi PyProof.Rows.boot_isinstance (pa_cons (pv 0) (pa_cons (pe_glob (v := .ref C_4) (by rfl) gx_4 rfl) pa_nil))) (pa_cons (pe_callB call_isiX (by rfl) T.g_isi PyProof.Rows.boot_isinstance (pa_cons (pv 0) (pa_cons (pe_glob (v := .ref C_5) (by rfl) gx_5 rfl) pa_nil))) pa_nil)))))
    (pss_cons (ps_set (i := 1) sc_f_law_alone.nd rfl (Or.inl rfl) (pe_op op_cat (pv 1) (pe_lst (pa_cons (pe_callB call_isiX (by rfl) T.g_isi PyProof.Rows.boot_isinstance (pa_cons (pv 0) (pa_cons (pe_glob (v := .ref C_6) (by rfl) gx_6 rfl) pa_nil))) (pa_cons (pe_callB call_isiX (by rfl) T.g_isi PyProof.Rows.boot_isinstance (pa_cons (pv 0) (pa_cons (pe_glob (v := .ref C_7) (by rfl) gx_7 rfl) pa_nil))) pa_nil)))))
    (pss_one (ps_ret (pe_and (pe_callB call_isiX (by rfl) T.g_isi PyProof.Rows.boot_isinstance (pa_cons (pv 0) (pa_cons (pe_glob (v := .ref C_8) (by rfl) gx_8 rfl) pa_nil))) (pe_and (pe_callB call_isiX (by rfl) T.g_isi PyProof.Rows.boot_isinstance (pa_cons (pv 0) (pa_cons (pe_bltn (v := .ty "ValueError") (by rfl) gx_9 PyProof.Rows.Boot.«ValueError» rfl) pa_nil))) (pe_one (pe_cmpR op_eq (pe_bm PySem.F.plainAttrs_list PySem.F.slot_list_count PySem.F.type_list_count mt_count (pv 1) (pa_cons pe_bl pa_nil)) pe_int (nomark _)))))))))), ?_⟩
  have hi := Z.isi D hD
  have o := Z.one D hD
  refine ⟨_, rfl, a, D, _, _, _, rfl, ha, hi, rfl, o C_0 (by simp), _, rfl, a, D, _, _, _, rfl, ha, hi, rfl, o C_1 (by simp), _, rfl, a, D, _, _, _, rfl, ha, hi, rfl, o C_2 (by simp), _, rfl, a, D, _, _, _, rfl, ha, hi, rfl, o C_3 (by simp), zl, fun l hl => ?_⟩
  refine ⟨_, rfl, _, rfl, a, D, _, _, _, rfl, keepN ha hl, hi, rfl, o C_4 (by simp), _, rfl, a, D, _, _, _, rfl, keepN ha hl, hi, rfl, o C_5 (by simp), zl, fun l2 hl2 => ?_⟩
  have l21 : l2 ≠ l := (ne_of_none upd_same hl2).symm
  refine ⟨l, l2, _, _, rfl, rfl, (upd_ne l21.symm).trans upd_same, upd_same, show 4 + 2 ≤ sizeLine by decide, fun l3 hl3 => ?_⟩
  have ha3 := keepN (u := .lst ([V.bl (D == C_0), V.bl (D == C_1), V.bl (D == C_2), V.bl (D == C_3)] ++ [V.bl (D == C_4), V.bl (D == C_5)])) (keepN (keepN ha hl) hl2) hl3
  refine ⟨_, rfl, _, rfl, a, D, _, _, _, rfl, ha3, hi, rfl, o C_6 (by simp), _, rfl, a, D, _, _, _, rfl, ha3, hi, rfl, o C_7 (by simp), zl, fun l4 hl4 => ?_⟩
  have l43 : l4 ≠ l3 := (ne_of_none upd_same hl4).symm
  refine ⟨l3, l4, _, _, rfl, rfl, (upd_ne l43.symm).trans upd_same, upd_same, show 6 + 2 ≤ sizeLine by decide, fun l5 hl5 => ?_⟩
  have ha5 := keepN (u := .lst (([V.bl (D == C_0), V.bl (D == C_1), V.bl (D == C_2), V.bl (D == C_3)] ++ [V.bl (D == C_4), V.bl (D == C_5)]) ++ [V.bl (D == C_6), V.bl (D == C_7)])) (keepN ha3 hl4) hl5
  refine ⟨_, rfl, a, D, _, _, _, rfl, ha5, hi, rfl, Z.house D hD, _, rfl, iteT ⟨_, rfl, a, D, _, _, _, rfl, ha5, hi, rfl, Z.value D hD, _, rfl, iteT ?_⟩⟩
  refine ⟨_, rfl, .inl ⟨rfl, _, SqL.of upd_same⟩, l5, [D == C_0, D == C_1, D == C_2, D == C_3, D == C_4, D == C_5, D == C_6, D == C_7], rfl, rfl, upd_same, rfl, ?_⟩
  have e1 := countOne Z.nd hD
  rw [show ([D == C_0, D == C_1, D == C_2, D == C_3, D == C_4, D == C_5, D == C_6, D == C_7] : List Bool) = ([C_0, C_1, C_2, C_3, C_4, C_5, C_6, C_7].map fun D' => D == D') from rfl, e1]
  exact k _ (((((Same.new hl).trans (Same.new hl2)).trans (Same.new hl3)).trans (Same.new hl4)).trans (Same.new hl5))
end
end LW


/-! SORTED, of ints that rise already, as many as there are -/
namespace L2
open PySem PySem.Spec PyProof.Rows
section
variable {prog : Program} {w : World} {A : Around} {E : Value → Shared → Prop} {s : Shared} {a₀ : Array Keyed}
end
end L2

/-! SORTED of a dict whose names rise already; a comprehension over a tuple -/
namespace L2
open PySem PySem.Spec PyProof.Rows
section
variable {X : Cx}
end
end L2

/-! THE LAW's record: a row is changed, or laid anew -/
namespace LW
open PySem L2
section
variable {H0 H : Hp} {ak ar : Addr} {bs : List Box} {k : Nat} {b : Box}
end
def newB (z : Int) (rows : List Row) : List Box := rows.mapIdx fun j r => ⟨z + 1 + (j : Int), r.1, r.2.map (ren fun i => z + 1 + i)⟩
theorem newB_len (z : Int) (rows : List Row) : (newB z rows).length = rows.length := by simp [newB]
theorem newB_at {z : Int} {rows : List Row} {j : Nat} {r : Row} (h : rows[j]? = some r) : (newB z rows)[j]? = some ⟨z + 1 + (j : Int), r.1, r.2.map (ren fun i => z + 1 + i)⟩ := by simp [newB, h]
theorem newB_names (z : Int) (rows : List Row) : (newB z rows).map (·.name) = intsUp (z + 1) rows.length := by
  apply List.ext_getElem?
  intro j
  by_cases h : j < rows.length
  · rw [List.getElem?_map, newB_at (List.getElem?_eq_getElem h), intsUp_get h]; rfl
  · rw [List.getElem?_eq_none (by rw [List.length_map, newB_len]; omega), List.getElem?_eq_none (by rw [intsUp_length]; omega)]
def HS.grown (S : HS) (rows : List Row) : HS := { S with last := S.last + (rows.length : Int), boxes := S.boxes ++ newB S.last rows }
def HS.gave (S : HS) (rows : List Row) (slot : Nat) : HS := { S.grown rows with slots := S.slots.set slot (.box (S.last + 1)) }
theorem kindsD_put {bs : List Box} {b : Box} (h : b.name ∉ bs.map (·.name)) : putK (kindsD bs) (Sum.inl b.name : Key) (V.str b.kind) = kindsD (bs ++ [b]) := by
  rw [putK_new _ (valV_out ?_)]
  · simp [kindsD]
  · rw [kindsD_keys]
    intro m
    obtain ⟨c, hc, q⟩ := List.mem_map.mp m
    rw [Sum.inl.inj q] at hc
    exact h hc
theorem fieldsD_put {bs : List Box} {fl : List Addr} {b : Box} {a : Addr} (hl : bs.length = fl.length) (h : b.name ∉ bs.map (·.name)) : putK (fieldsD bs fl) (Sum.inl b.name : Key) (V.ref a) = fieldsD (bs ++ [b]) (fl ++ [a]) := by
  rw [putK_new _ (valV_out ?_)]
  · unfold fieldsD
    rw [List.zip_append hl]
    simp
  · rw [fieldsD_keys hl]
    intro m
    obtain ⟨c, hc, q⟩ := List.mem_map.mp m
    rw [Sum.inl.inj q] at hc
    exact h hc
/-- all but two places is as it was -/
def Fr2 (x y : Addr) (H H' : Hp) : Prop := ∀ b o, H b = some o → b ≠ x → b ≠ y → H' b = some o
theorem Fr2.trans {x y : Addr} {H H1 H2 : Hp} (a : Fr2 x y H H1) (b : Fr2 x y H1 H2) : Fr2 x y H H2 := fun c o h n1 n2 => b c o (a c o h n1 n2) n1 n2
theorem Fr2.of_same {x y : Addr} {H H1 : Hp} (s : Same H H1) : Fr2 x y H H1 := fun c o h _ _ => s c o h
theorem Fr2.tups {x y : Addr} {H H1 : Hp} (a : Fr2 x y H H1) {k1 k2 : List (Key × V)} (hx : H x = some (.dK k1)) (hy : H y = some (.dK k2)) : Tups H H1 := fun b xs q =>
  a b _ q (ne_of q hx (by intro z; cases z)) (ne_of q hy (by intro z; cases z))
theorem nodup_mids {a b r l : List Addr} (h : (a ++ b ++ r).Nodup) (hl : l.Nodup) (hd : ∀ x ∈ l, x ∉ a ++ b ++ r) : (a ++ (b ++ l) ++ r).Nodup := by
  have e : (a ++ (b ++ l) ++ r).Perm ((a ++ b ++ r) ++ l) := by
    have : (a ++ (b ++ (l ++ r))).Perm (a ++ (b ++ (r ++ l))) := List.Perm.append_left a (List.Perm.append_left b List.perm_append_comm)
    simpa [List.append_assoc] using this
  rw [e.nodup_iff]
  exact List.nodup_append.mpr ⟨h, hl, fun x hx y hy e => hd y hy (e ▸ hx)⟩
theorem HouseAt.grown {C : Addr} {H H' : Hp} {p : Addr} {A : HA} {S : HS} {nb : List Box} {fl2 : List Addr} {z : Int} (h : HouseAt C H p A S) (h1 : H' p = some (.ins C A.dx (hFlds A { S with last := z })))
    (h2 : H' A.kd = some (.dK (kindsD (S.boxes ++ nb)))) (h3 : H' A.fd = some (.dK (fieldsD (S.boxes ++ nb) (A.fl ++ fl2)))) (h4 : Paired (fun b a => ThL H' b.row a) nb fl2)
    (nd2 : fl2.Nodup) (hl : ∀ a ∈ fl2, a ∉ A.lists) (hk : ∀ b ∈ A.lists, H' b = H b) (ht : Tups H H') (hn : nb.map (·.name) = intsUp (S.last + 1) nb.length) (hz : z = S.last + (nb.length : Int)) :
    HouseAt C H' p { A with fl := A.fl ++ fl2 } { S with last := z, boxes := S.boxes ++ nb } where
  ob := h1
  sl := h.sl.keep ht (hk _ (by simp [HA.lists]))
  kd := h2
  fd := h3
  fl := pr_app (pr_imp (fun b a _ ha z => z.keep ht (hk _ (by simp [HA.lists, ha]))) h.fl) h4
  qs := (hk _ (by simp [HA.lists])).trans h.qs
  ql := pr_imp (fun b a _ ha z => (hk _ (by simp [HA.lists, ha])).trans z) h.ql
  td := (hk _ (by simp [HA.lists])).trans h.td
  tl := pr_imp (fun b a _ ha z => (hk _ (by simp [HA.lists, ha])).trans z) h.tl
  nd := by
    have e : HA.lists A = [A.sl, A.qs, A.td] ++ A.fl ++ (A.ql ++ A.tl) := by simp [HA.lists]
    have e2 : HA.lists { A with fl := A.fl ++ fl2 } = [A.sl, A.qs, A.td] ++ (A.fl ++ fl2) ++ (A.ql ++ A.tl) := by simp [HA.lists]
    have nd := h.nd
    rw [e] at nd hl
    rw [e2]
    exact nodup_mids nd nd2 hl
  kf := h.kf
  asc := by
    show ((S.boxes ++ nb).map (·.name)).Pairwise (· < ·)
    rw [List.map_append, List.pairwise_append, hn]
    refine ⟨h.asc, intsUp_asc _ _, fun x hx y hy => ?_⟩
    obtain ⟨b, hb, rfl⟩ := List.mem_map.mp hx
    have := h.top b hb
    have hy := intsUp_mem.mp hy
    omega
  top := fun b hb => by
    show b.name ≤ z
    rcases List.mem_append.mp hb with q | q
    · have := h.top b q; omega
    · have : b.name ∈ intsUp (S.last + 1) nb.length := by rw [← hn]; exact List.mem_map.mpr ⟨b, q, rfl⟩
      have := intsUp_mem.mp this
      omega
theorem pr_getMemR {α β : Type} {F : α → β → Prop} : ∀ {xs : List α} {ys : List β} {y : β}, Paired F xs ys → y ∈ ys → ∃ x, x ∈ xs ∧ F x y
  | _, _, _, .cons (a := x) h t, m => by
    rcases List.mem_cons.mp m with z | z
    · exact ⟨x, List.mem_cons_self, z ▸ h⟩
    · obtain ⟨x', hx, hf⟩ := pr_getMemR t z
      exact ⟨x', List.mem_cons_of_mem _ hx, hf⟩
theorem nd_snocA {l : List Addr} {a : Addr} (h : l.Nodup) (n : a ∉ l) : (l ++ [a]).Nodup := List.nodup_append.mpr ⟨h, by simp, fun x hx y hy e => n (by rw [← List.mem_singleton.mp hy, ← e]; exact hx)⟩
theorem atI_end {α : Type} {xs : List α} {v : α} (h : 0 < xs.length) (e : xs[xs.length - 1]? = some v) : atI xs (-1) = some v := by
  have z : ixN xs.length (-1) = some (xs.length - 1) := by
    unfold ixN
    rw [if_neg (by omega), if_pos (by omega)]
    congr 1
    omega
  unfold atI
  rw [z]
  exact e
end LW

/-! TEXTS: startswith, split, join, all, int of a text, f".." with its value -/
namespace L2
open PySem PySem.Spec PyProof.Rows PySem.W
open PySem.Builtin.Str (subAt occurrences partsBetween)
theorem vals_strs : ∀ (l : List (Str × Tok)), Vals ((l.map (·.1)).map V.str) (strValues l)
  | [] => .nil
  | p :: l => .cons ⟨p.2, rfl⟩ (vals_strs l)
theorem strs_of : ∀ {xs : List Str} {its : List Value}, Vals (xs.map V.str) its → ∃ l : List (Str × Tok), its = strValues l ∧ l.map (·.1) = xs
  | [], _, .nil => ⟨[], rfl, rfl⟩
  | x :: _, _, .cons r t => by
    obtain ⟨k, rfl⟩ := r
    obtain ⟨l, rfl, rfl⟩ := strs_of t
    exact ⟨(x, k) :: l, rfl, rfl⟩
section
variable {X : Cx}
theorem mt_starts : MtR X "str.startswith" (fun x vs H Q => ∃ z p, x = .str z ∧ vs = [.str p] ∧ Q (.bl (decide (0 + p.length ≤ z.length) && subAt z p 0)) H) := by
  intro pins s σ H x vs v us Q I rx rv h
  obtain ⟨z, p, rfl, rfl, q⟩ := h
  obtain ⟨t, rfl⟩ := rx
  obtain ⟨u, rfl, t', rfl⟩ := rv.one
  exact call_gives F.slot_str_startswith (typeIs_str _ _ _) F.entry_str_startswith (F.args_str_startswith_2 _ _) (gives_str_startswith z p t t') ⟨.bl _, H, I, rfl, q⟩
theorem mt_split : MtR X "str.split" (fun x vs H Q => ∃ z p, x = .str z ∧ vs = [.str p] ∧ (p.length == 0) = false ∧ z.length + 2 ≤ sizeLine ∧ ∀ l, H l = none → Q (.ref l) (upd H l (.lst ((Txt.split z p).map V.str)))) := by
  intro pins s σ H x vs v us Q I rx rv h
  obtain ⟨z, p, rfl, rfl, hp, hz, q⟩ := h
  obtain ⟨t, rfl⟩ := rx
  obtain ⟨u, rfl, t', rfl⟩ := rv.one
  have few : (partsBetween z (occurrences z p 0 z.length (z.length + 1)) p.length).length ≤ sizeLine := by
    have e1 := StrLaws.occ_length_le z p 0 z.length (z.length + 1)
    rw [length_partsBetween]; omega
  have fin : ∀ (l : List (Str × Tok)) (k : Nat), l.map (·.1) = Txt.split z p → l.length ≤ sizeLine → EP X pins σ Q (.ref s.heap.objs.size) { s with heap := s.heap.push { cls := .type "list", data := .seq (strValues l).toArray }, toks := k } := fun l k e hl => by
    refine ⟨.ref s.heap.objs.size, _, I.laid (t' := k) (o := .lst ((Txt.split z p).map V.str)) (fun b ob q => Heap.get?_push_of_some _ q) (Nat.le_refl _) ?_, rfl, q _ (I.hok.fresh (Nat.le_refl _))⟩
    rw [← e]
    exact ⟨by rw [List.length_map, List.length_map]; exact hl, strValues l, 0, vals_strs l, Heap.get?_push_size _ rfl⟩
  cases h1 : (decide (z.length < p.length) || decide (PySem.Builtin.Str.strKind z < PySem.Builtin.Str.strKind p))
  · cases hf : (occurrences z p 0 z.length (z.length + 1)).isEmpty
    · refine call_meets F.slot_str_split (typeIs_str _ _ _) F.entry_str_split (F.args_str_split_2 _ _) (meets_str_split_sep z p t t' h1 hp hf (by omega) few) ?_
      have e : Txt.split z p = partsBetween z (occurrences z p 0 z.length (z.length + 1)) p.length := (if_neg (ne_true_of_eq_false h1)).trans (if_neg (ne_true_of_eq_false hf))
      have w := fin (numbered s.toks (partsBetween z (occurrences z p 0 z.length (z.length + 1)) p.length)) (s.toks + (partsBetween z (occurrences z p 0 z.length (z.length + 1)) p.length).length) ((numbered_texts _ _).trans e.symm) (by
        have := congrArg List.length (numbered_texts s.toks (partsBetween z (occurrences z p 0 z.length (z.length + 1)) p.length))
        rw [List.length_map] at this
        omega)
      rw [← strsFrom_eq] at w
      exact w
    · exact call_meets F.slot_str_split (typeIs_str _ _ _) F.entry_str_split (F.args_str_split_2 _ _) (meets_str_split_not_found z p t t' h1 hp hf)
        (fin [(z, t)] s.toks ((if_neg (ne_true_of_eq_false h1)).trans (if_pos hf)).symm (by rw [sizeLine_eq]; simp))
  · exact call_meets F.slot_str_split (typeIs_str _ _ _) F.entry_str_split (F.args_str_split_2 _ _) (meets_str_split_cannot_occur z p t t' h1)
      (fin [(z, t)] s.toks (if_pos h1).symm (by rw [sizeLine_eq]; simp))
end
end L2
namespace L2
open PySem PySem.Spec PyProof.Rows PySem.W
section
variable {X : Cx}
theorem mt_join : MtR X "str.join" (fun x vs H Q => ∃ sep l xs, x = .str sep ∧ vs = [.ref l] ∧ H l = some (.lst (xs.map V.str)) ∧ JoinOk sep xs = true ∧ Q (.str (Txt.join sep xs)) H) := by
  intro pins s σ H x vs v us Q I rx rv h
  obtain ⟨sep, l, xs, rfl, rfl, hl, ok, q⟩ := h
  obtain ⟨t, rfl⟩ := rx
  obtain ⟨u, rfl, ru⟩ := rv.one
  cases ru
  obtain ⟨z, its, c, r, hlen, e⟩ := I.lstM hl
  obtain ⟨k, rfl, rfl⟩ := strs_of r
  unfold JoinOk at ok
  rw [Bool.not_eq_true'] at ok
  exact call_meets F.slot_str_join (typeIs_str _ _ _) F.entry_str_join (F.args_str_join_2 _ _) (meets_str_join_list sep t l k ok) ⟨⟨_, e, rfl, _, rfl⟩, post_join k ⟨joinFit_length ok, fun t' n => ⟨.str _, H, I.tok _, ⟨_, rfl⟩, q⟩⟩⟩
end
end L2
namespace L2
open PySem PySem.Spec PyProof.Rows PySem.W
theorem bools_of : ∀ {bs : List Bool} {its : List Value}, Vals (bs.map V.bl) its → its = bs.map Value.bool
  | [], _, .nil => rfl
  | _ :: _, _, .cons r t => by cases r; rw [bools_of t]; rfl
section
variable {X : Cx}
theorem call_intT : CallR X (.type "int") (fun xs H Q => ∃ z n, xs = [.str z] ∧ PySem.intText? z = some n ∧ z.length ≤ 640 ∧ Q (.int n) H) := by
  intro pins s σ H xs us Q I r h
  obtain ⟨z, n, rfl, hn, hl, q⟩ := h
  obtain ⟨u, rfl, t, rfl⟩ := vals1 r
  exact PySem.W.KIN.call_text hn hl ⟨.int n, H, I.tok _, ⟨_, rfl⟩, q⟩
theorem call_allB (hA : X.A.handled = none) : CallR X (.builtin "all") (fun xs H Q => ∃ (l : Addr) (bs : List Bool), xs = [.ref l] ∧ H l = some (.lst (bs.map V.bl)) ∧ Q (.bl (bs.all id)) H) := by
  intro pins s σ H xs us Q I r h
  obtain ⟨l, bs, rfl, hl, q⟩ := h
  obtain ⟨u, rfl, rx⟩ := vals1 r
  cases rx
  obtain ⟨z, its, c, rv, hlen, e⟩ := I.lstM hl
  have ei := bools_of rv
  subst ei
  have hi : s.heap.IsList l (bs.map Value.bool).toArray := ⟨_, e, rfl, _, rfl⟩
  have hlt : l < s.heap.objs.size := Heap.lt_size e
  refine call_all_walk (wpAny_pyIter_list hi ?_)
  refine ⟨s.heap.objs.size, _, _, _, _, _, fun i => (bs[i]?).getD false, rfl, Walks.list (A := X.A.in1) hA s.heap.objs.size l (Nat.ne_of_lt hlt) (bs.map Value.bool).toArray, ⟨⟨_, Heap.get?_push_size _ rfl, rfl, rfl⟩, ⟨_, Heap.get?_push_of_some _ e, rfl, _, rfl⟩⟩, ?_, fun h' tk kp => ?_⟩
  · intro i v s1 Q1 E1 hv hq
    have hv : ((bs.map Value.bool).toArray)[i]? = some v := hv
    rw [List.getElem?_toArray, List.getElem?_map] at hv
    obtain ⟨b, hb, rfl⟩ := Option.map_eq_some_iff.mp hv
    dsimp only at hq
    rw [hb] at hq
    exact wpAny_truthy_bool hq
  · have ev : ((List.range (bs.map Value.bool).toArray.size).all fun i => (bs[i]?).getD false) = bs.all id := by
      rw [List.size_toArray, List.length_map, Bool.eq_iff_iff]
      simp only [List.all_eq_true, List.mem_range, id]
      constructor
      · intro h b hb
        obtain ⟨i, hi⟩ := List.getElem?_of_mem hb
        have := h i (List.getElem?_eq_some_iff.mp hi).1
        rw [hi] at this
        exact this
      · intro h i hi
        rw [List.getElem?_eq_getElem hi]
        exact h _ (List.getElem_mem hi)
    rw [ev]
    exact ⟨.bl _, H, I.kept (t' := tk) (fun b o eb => kp b o (fun m => by rw [List.mem_singleton.mp m] at eb; exact absurd (Heap.lt_size eb) (Nat.lt_irrefl _)) (Heap.get?_push_of_some _ eb)), rfl, q⟩
end
end L2

/-! TEXTS: the signs of a text, one by one; f".." with its value -/
namespace L2
open PySem PySem.Spec PyProof.Rows PySem.W
/-- a text's signs -/
def Its (z : Str) : It := ⟨fun i _ => i < z.cps.size, fun i H x H' => H' = H ∧ ∃ c, z.cps[i]? = some c ∧ x = .str ⟨#[c]⟩, fun i _ => i = z.cps.size⟩
theorem turn_str {P : Program} {w : World} {K : Fg} {tg : Expr} (it : Addr) (z : Str) (t : Tok) : Turn P w K tg (Its z) [it] it (fun i h => h.IsStrIter it "str_ascii_iterator" z t i) where
  mem := by simp
  obj := fun i h st b hb => by
    have e : b = it := by simpa using hb
    subst e
    obtain ⟨o, e, c, d⟩ := st
    exact ⟨o, e, fun v q => by rw [d] at q; cases q⟩
  keep := fun i h h' st k => by
    obtain ⟨o, e, c, d⟩ := st
    exact ⟨o, k it (by simp) o e, c, d⟩
  item := by
    intro X hP hw hK hc i pins s σ H E I hf st hg
    subst hP hw hK
    obtain ⟨f0, f1, f2, f3, f4, f5⟩ := hf it (by simp)
    have W := Walks.strAscii (prog := X.prog) (w := X.w) (I.ok.hd hc) it z t
    refine W.item i s _ _ hg st fun v h' tk hv st' kk => ?_
    obtain ⟨c, u, hc2, rfl⟩ := hv
    have I1 : Inv X pins σ H { s with heap := h', toks := tk } := I.turned (fun b o hb e => kk b o (by simpa using hb) e) f0 f1 f3 f4 f5
    obtain ⟨o, e, cl, d⟩ := id st'
    exact ⟨_, rfl, go_of (s := { s with heap := h', toks := tk }) e cl d (by decide) ⟨.str ⟨#[c]⟩, H, I1, ⟨u, rfl⟩, ⟨rfl, c, hc2, rfl⟩, st', fun b hb => (hf b hb).1⟩⟩
  done := by
    intro X hP hw hK hc i pins s σ H E I hf st hg
    subst hP hw hK
    obtain ⟨f0, f1, f2, f3, f4, f5⟩ := hf it (by simp)
    have hg : i = z.cps.size := hg
    subst hg
    have W := Walks.strAscii (prog := X.prog) (w := X.w) (I.ok.hd hc) it z t
    exact W.done s _ _ st fun h' tk kk => ⟨rfl, I.turned (fun b o hb e => kk b o (by simpa using hb) e) f0 f1 f3 f4 f5⟩
  self := fun A _ _ _ _ st h => wpAny_pyIter_striter_ascii st h
def iStr (tl : TE) : TI := fun σ H R => tl σ H fun x H1 => ∃ z, x = .str z ∧ z.cps.all (· < 128) = true ∧ R (Its z) H1
section
variable {X : Cx} {tg : Expr}
theorem pi_str {l : Expr} {tl : TE} (hl : PE X l tl) : PI X tg l (iStr tl) := by
  intro pins s σ H R I h
  refine thn (hl pins s σ H _ I h) fun v s1 ⟨x, H1, I1, r1, q1⟩ => ?_
  obtain ⟨z, e, ha, q⟩ := q1
  subst e
  obtain ⟨t, rfl⟩ := r1
  refine wpAny_pyIter_ascii ha ?_
  refine ⟨s1.heap.objs.size, [s1.heap.objs.size], _, _, H1, rfl, I1.kept (t' := s1.toks) fun b o e => Heap.get?_push_of_some _ e, turn_str _ z t, ⟨_, Heap.get?_push_size _ rfl, rfl, rfl⟩, fun b hb => ?_, q⟩
  have e : b = s1.heap.objs.size := by simpa using hb
  subst e
  exact I1.fpOk (Nat.le_refl _) (I1.hok.fresh (Nat.le_refl _))
end
theorem comp_str {z : Str} {tc : TT} {te : TE} {σ : St} {fr : List Nat} {H : Hp} {Q : VK} (Pv : Nat → List V → Hp → Prop) (h0 : Pv 0 [] H) (hz : ∀ i ys H, Pv i ys H → ys.length ≤ i) (hn : z.cps.size ≤ sizeLine)
    (hs : ∀ (i c : Nat) (ys : List V) (H : Hp), z.cps[i]? = some c → Pv i ys H → tc (some (.str ⟨#[c]⟩) :: seen σ fr) H fun b H2 => if b = true then te (some (.str ⟨#[c]⟩) :: seen σ fr) H2 fun y H3 => Pv (i + 1) (ys ++ [y]) H3 else Pv (i + 1) ys H2)
    (hd : ∀ ys H, Pv z.cps.size ys H → ∀ p, H p = none → Q (.ref p) (upd H p (.lst ys))) : tCompK fr tc te σ Q (Its z) H := by
  refine ⟨fun i m ys H => m = z.cps.size - i ∧ i ≤ z.cps.size ∧ Pv i ys H, ⟨z.cps.size, by simp, Nat.zero_le _, h0⟩, ?_⟩
  rintro i m ys H ⟨rfl, hi, p⟩
  have hl := hz i ys H p
  by_cases hlt : i < z.cps.size
  · refine .inr ⟨hlt, by omega, Pv (i + 1), fun ys' H' q => ⟨z.cps.size - (i + 1), by omega, rfl, hlt, q⟩, fun v H' y => ?_⟩
    obtain ⟨e, c, hc, e2⟩ := y
    subst e e2
    exact hs i c ys _ hc p
  · have e : i = z.cps.size := by omega
    subst e
    exact .inl ⟨rfl, by omega, hd ys H p⟩
/-! f"..{n}": a text and a whole number -/
section
variable {X : Cx} {e : Expr} {te : TE} {x : Str} {j pos pos' pos2}
end
end L2
namespace L2
open PySem PySem.Spec PyProof.Rows PySem.W
/-- z[i:] -/
theorem sl_str {X : Cx} : SlR X (fun x lo hi H Q => ∃ (z : Str) (i : Int), x = .str z ∧ lo = some i ∧ hi = none ∧ z.length ≤ sizeLine ∧ Q (.str (Txt.slice z (some i) none)) H) := by
  intro pins s σ H x v vl vu lo hi sl Q I rx hs pl pu h
  obtain ⟨z, i, rfl, rfl, rfl, hz, q⟩ := h
  obtain ⟨t, rfl⟩ := rx
  cases pl with
  | int _ ti =>
    cases pu
    refine ⟨"str", _, F.slot_str_getitem.lookup, typeIs_str _ _ _, ?_⟩
    exact wpAny_getItem_str_slice (l := some (i, ti)) (u := none) (st := none) hs rfl (post_val_or_str ⟨Nat.le_trans (Txt.slice_le z _ _) hz, fun t' k => ⟨.str _, H, I.tok _, ⟨_, rfl⟩, q⟩⟩)
end L2
namespace L2
open PySem PySem.Spec PyProof.Rows PySem.W
def tKGet1 (kvs : List (Key × V)) (ty : TE) : TE := fun σ H Q => ty σ H fun y H2 => ∃ k, y = kV k ∧ Q ((valV kvs k).getD .non) H2
theorem pe_kget1 {X : Cx} {a : Addr} {kvs : List (Key × V)} {g : Str} {p apos cpos : Pos} {e : Expr} {ty : TE} (D : KDict X.prog X.w X.K a kvs) (hg : Gl X g) (hm : X.mg g = some (.ref a)) (he : PE X e ty) (m : M1 X (.Name g p) "get" apos e cpos)
    (hd : (g == ("__debug__" : Str)) = false := by decide) : PE X (.Call (.Attribute (.Name g p) "get" apos) [e] [] cpos) (tKGet1 kvs ty) := by
  intro pins s σ H Q I h
  obtain ⟨vs, rel, at_⟩ := D.at_
  refine wpAny_Call_method m.base m.few m.line PySem.F.plainAttrs_dict PySem.F.slot_dict_get PySem.F.type_dict_get (ld_glob I hg hm ?_ hd)
  have dd := at_ _ I.kIn
  refine ⟨dd.typeIs, fun b q => ?_, ?_⟩
  · cases q
    obtain ⟨ob, _, _, h1, h2, _⟩ := dd
    exact ⟨ob, h1, h2.2.1⟩
  · rw [m.trees]
    refine Calls.callWith_builtin rfl (Calls.evalArgs_plain (Calls.spliced_cons (thn (he pins s σ H _ I h) fun iv s2 ⟨y, H2, I2, ry, k, ey, q2⟩ => Calls.spliced_nil ?_)))
    subst ey
    have d2 := at_ _ I2.kIn
    refine call_meetsIn PySem.F.slot_dict_get d2.typeIs PySem.F.entry_dict_get (PySem.F.args_dict_get_2 _ _) (meets_dict_get (mixKind X.prog X.w) a (kV_is ry) D.ns) ⟨_, d2.mapOf, ?_⟩
    exact ⟨_, H2, I2.tok _, (rel.val k).getD (show RelV V.non Value.none from rfl), q2⟩
theorem callk_len {X : Cx} {K' : Fg} (h : X.K = K') : CallR X (.builtin "len") (fun xs H Q => ∃ p ys, xs = [.ref p] ∧ (SqL K' H p ys ∨ SqT K' H p ys) ∧ Q (.int ys.length) H) := h ▸ call_len_seq
end L2

/-! TEXTS: what is joined is split again; numbers and their figures -/
namespace LW
open PySem L2 PySem.NumText
theorem cut_eq {c : Nat} : ∀ {a a' b b' : List Nat}, c ∉ a → c ∉ a' → a ++ c :: b = a' ++ c :: b' → a = a' ∧ b = b'
  | [], [], b, b', _, _, h => ⟨rfl, (List.cons.inj h).2⟩
  | [], x :: a', b, b', _, h2, h => absurd (by rw [(List.cons.inj h).1]; exact List.mem_cons_self) h2
  | x :: a, [], b, b', h1, _, h => absurd (by rw [← (List.cons.inj h).1]; exact List.mem_cons_self) h1
  | x :: a, y :: a', b, b', h1, h2, h => by
    obtain ⟨e1, e2⟩ := List.cons.inj h
    obtain ⟨e3, e4⟩ := cut_eq (fun z => h1 (List.mem_cons_of_mem _ z)) (fun z => h2 (List.mem_cons_of_mem _ z)) e2
    exact ⟨by rw [e1, e3], e4⟩
theorem str_ext {x y : Str} (h : x.cps.toList = y.cps.toList) : x = y := by
  obtain ⟨⟨a⟩⟩ := x
  obtain ⟨⟨b⟩⟩ := y
  have h : a = b := h
  rw [h]
theorem cps_cat (x y : Str) : (x ++ y).cps.toList = x.cps.toList ++ y.cps.toList := by
  show (x.cps ++ y.cps).toList = _
  simp
theorem join_cps (c : Nat) (x y : Str) (r : List Str) : (Str.join ⟨#[c]⟩ (x :: y :: r)).cps.toList = x.cps.toList ++ c :: (Str.join ⟨#[c]⟩ (y :: r)).cps.toList := by
  show (x ++ ⟨#[c]⟩ ++ Str.join ⟨#[c]⟩ (y :: r)).cps.toList = _
  rw [cps_cat, cps_cat]
  simp
theorem join_inj {c : Nat} : ∀ {ps qs : List Str}, ps ≠ [] → qs ≠ [] → (∀ p ∈ ps, c ∉ p.cps.toList) → (∀ q ∈ qs, c ∉ q.cps.toList) → (Str.join ⟨#[c]⟩ ps).cps.toList = (Str.join ⟨#[c]⟩ qs).cps.toList → ps = qs
  | [], _, h, _, _, _, _ => absurd rfl h
  | _, [], _, h, _, _, _ => absurd rfl h
  | [x], [y], _, _, _, _, h => congrArg (fun z => [z]) (str_ext (show x.cps.toList = y.cps.toList from h))
  | [x], y :: z :: r, _, _, h1, _, h => by
    rw [join_cps] at h
    have : c ∈ (Str.join ⟨#[c]⟩ [x]).cps.toList := by rw [h]; simp
    exact absurd this (h1 x List.mem_cons_self)
  | x :: z :: r, [y], _, _, _, h2, h => by
    rw [join_cps] at h
    have : c ∈ (Str.join ⟨#[c]⟩ [y]).cps.toList := by rw [← h]; simp
    exact absurd this (h2 y List.mem_cons_self)
  | x :: x2 :: r, y :: y2 :: t, _, _, h1, h2, h => by
    rw [join_cps, join_cps] at h
    obtain ⟨e1, e2⟩ := cut_eq (h1 x List.mem_cons_self) (h2 y List.mem_cons_self) h
    rw [str_ext e1, join_inj (by simp) (by simp) (fun p hp => h1 p (List.mem_cons_of_mem _ hp)) (fun q hq => h2 q (List.mem_cons_of_mem _ hq)) e2]
theorem split_ne (x : Str) (c : Nat) : Txt.split x ⟨#[c]⟩ ≠ [] := by
  unfold Txt.split
  split
  · simp
  · split
    · simp
    · rw [StrLaws.partsBetween_eq]
      obtain ⟨p, r, e⟩ := StrLaws.partsFrom_ne x (Str.length ⟨#[c]⟩) 0 (Builtin.Str.occurrences x ⟨#[c]⟩ 0 x.length (x.length + 1))
      rw [e]; simp
/-- what is joined is split again -/
theorem split_join {c : Nat} {ps : List Str} (h : ps ≠ []) (free : ∀ p ∈ ps, c ∉ p.cps.toList) : Txt.split (Txt.join ⟨#[c]⟩ ps) ⟨#[c]⟩ = ps := by
  refine join_inj (split_ne _ c) h (StrLaws.split_free _ c) free ?_
  rw [StrLaws.join_split]
  show (Builtin.Str.glued _ ps).cps.toList = _
  rw [StrLaws.glued_eq_join]
/-! ### numbers -/
open PySem.Builtin.Str (subAt occurrences)
/-- what each part tells, if all tell -/
def allOf {α β : Type} (f : α → Option β) : List α → Option (List β)
  | [] => some []
  | x :: r => match f x with
    | none => none
    | some y => match allOf f r with
      | none => none
      | some ys => some (y :: ys)
theorem allOf_snoc {α β : Type} {f : α → Option β} {x : α} : ∀ {l : List α} {ys : List β}, allOf f l = some ys → allOf f (l ++ [x]) = (f x).map fun y => ys ++ [y]
  | [], ys, h => by
    cases h
    show allOf f [x] = _
    unfold allOf
    cases f x <;> rfl
  | a :: l, ys, h => by
    have h : (match f a with | none => none | some y => match allOf f l with | none => none | some ys => some (y :: ys)) = some ys := h
    show (match f a with | none => none | some y => match allOf f (l ++ [x]) with | none => none | some ys => some (y :: ys)) = _
    cases ha : f a with
    | none => rw [ha] at h; cases h
    | some y =>
      rw [ha] at h
      cases hl : allOf f l with
      | none => rw [hl] at h; cases h
      | some zs =>
        rw [hl] at h
        cases h
        rw [allOf_snoc hl]
        cases f x <;> rfl
theorem allOf_none {α β : Type} {f : α → Option β} {x : α} (h : f x = none) : ∀ {l : List α}, x ∈ l → allOf f l = none
  | a :: l, hm => by
    show (match f a with | none => none | some y => match allOf f l with | none => none | some ys => some (y :: ys)) = none
    rcases List.mem_cons.mp hm with rfl | hm
    · rw [h]
    · rw [allOf_none h hm]
      cases f a <;> rfl
theorem allOf_len {α β : Type} {f : α → Option β} : ∀ {l : List α} {ys : List β}, allOf f l = some ys → ys.length = l.length
  | [], ys, h => by cases h; rfl
  | a :: l, ys, h => by
    have h : (match f a with | none => none | some y => match allOf f l with | none => none | some ys => some (y :: ys)) = some ys := h
    cases ha : f a with
    | none => rw [ha] at h; cases h
    | some y =>
      rw [ha] at h
      cases hl : allOf f l with
      | none => rw [hl] at h; cases h
      | some zs => rw [hl] at h; cases h; simp [allOf_len hl]
theorem allOf_mem {α β : Type} {f : α → Option β} {y : β} : ∀ {l : List α} {ys : List β}, allOf f l = some ys → y ∈ ys → ∃ x ∈ l, f x = some y
  | [], ys, h, hm => by cases h; cases hm
  | a :: l, ys, h, hm => by
    have h : (match f a with | none => none | some y => match allOf f l with | none => none | some ys => some (y :: ys)) = some ys := h
    cases ha : f a with
    | none => rw [ha] at h; cases h
    | some z =>
      rw [ha] at h
      cases hl : allOf f l with
      | none => rw [hl] at h; cases h
      | some zs =>
        rw [hl] at h
        cases h
        rcases List.mem_cons.mp hm with rfl | hm
        · exact ⟨a, List.mem_cons_self, ha⟩
        · obtain ⟨x, hx, e⟩ := allOf_mem hl hm
          exact ⟨x, List.mem_cons_of_mem _ hx, e⟩
def startsB (z p : Str) : Bool := decide (0 + p.length ≤ z.length) && subAt z p 0
def figB (c : Nat) : Bool := !(occurrences (Str.ofString "0123456789") ⟨#[c]⟩ 0 (Str.ofString "0123456789").length 1).isEmpty
def isNumB (z : Str) : Bool := if z.length < 1 then false else if 40 < z.length then false else if 1 < z.length ∧ startsB z "0" = true then false else (z.cps.toList.map figB).all id
def numOf (z : Str) : Option Int := if isNumB z = true then PySem.intText? z else none
def tailS (z : Str) : Str := Txt.slice z (some 1) none
/-- the thing of a word; none where it is refused -/
def thingOf (count : Int) (z : Str) : Option T :=
  if z = "-" then some .non
  else if startsB z "#" = true then match numOf (tailS z) with
    | none => none
    | some n => if count ≤ n then none else some (.box n)
  else if startsB z "-" = true then match numOf (tailS z) with
    | none => none
    | some n => if n = 0 then none else some (.num (-n))
  else match numOf z with
    | none => none
    | some n => some (.num n)
def mayB (kind : Str) (n : Int) : Bool := if kind = "plain" then decide (n ≤ 8) else decide ((valV fixed (Sum.inr kind)).getD .non = V.int n)
def rowOf (count : Int) (line : Str) : Option Row := match Txt.split line " " with
  | [] => none
  | k :: r => match allOf (thingOf count) r with
    | none => none
    | some ts => if mayB k ts.length = true then some (k, ts) else none
/-- all boxes of a text; none where it is refused -/
def noteOf (z : Str) : Option (List Row) := allOf (rowOf (Txt.split z "\n").length) (Txt.split z "\n")
/-- texts that are looked at: of no strange signs, not long, whose numbers can be told -/
def numOk (z : Str) : Bool := z.cps.all (· < 128) && decide (z.length ≤ 200) && (!isNumB z || (PySem.intText? z).isSome) && ((PySem.intText? z).all fun n => decide (n.natAbs < 10 ^ 60))
def wordOk (z : Str) : Bool := numOk z && numOk (tailS z)
def lineOk (z : Str) : Bool := z.cps.all (· < 128) && decide (z.length ≤ 400) && (Txt.split z " ").all wordOk && decide ((Txt.split z " ").length ≤ 400)
def noteOk (z : Str) : Bool := decide (z.length ≤ 2000) && (Txt.split z "\n").all lineOk && decide ((Txt.split z "\n").length ≤ 400)
theorem fixed_two (k : Str) : (valV fixed (Sum.inr k)).getD .non = .non ∨ ∃ i, (valV fixed (Sum.inr k)).getD .non = V.int i := by
  unfold fixed
  by_cases h1 : (Sum.inr "weak" : Key) = Sum.inr k
  · rw [valV_pos h1]; exact .inr ⟨1, rfl⟩
  · by_cases h2 : (Sum.inr "pair" : Key) = Sum.inr k
    · refine .inr ⟨2, ?_⟩
      simp [valV, List.find?_cons, h1, h2]
    · left
      simp [valV, List.find?_cons, h1, h2]
theorem scal_fixed (k : Str) (n : Int) : scal ((valV fixed (Sum.inr k)).getD .non) (.int n) = true := by
  rcases fixed_two k with e | ⟨i, e⟩ <;> rw [e] <;> rfl
end LW

/-! REFUSALS that leave a comprehension -/
namespace L2
open PySem PySem.Spec PyProof.Rows PySem.W

/-- an exception in flight, its first entry marked by fl -/
structure Flew (g : Heap) (H : Hp) (h : Heap) (e C T : Addr) (fl : Value) : Prop where
  newE : g.get? e = none
  newT : g.get? T = none
  frE : H e = none
  frT : H T = none
  ne : T ≠ e
  obj : ∃ oe vs a0 oT ts, h.get? e = some oe ∧ oe.cls = .ref C ∧ oe.data = .fields vs ∧ vs[0]? = some a0 ∧ vs[1]? = some (.ref T) ∧ h.get? T = some oT ∧ oT.data = .fields ts ∧ ts[3]? = some fl
section
variable {X : Cx} {pins : Pn} {σ : St} {H : Hp} {s : Shared} {e C T : Addr} {E : XK} {fl : Value}
theorem Inv.entryF {as : List Addr} {a0 : Value} {h' : Heap} (I : Inv X pins σ H s) (hx : X.ex = []) (hl : h'.FunFrames (hideAll s.heap (frs X.stack ++ as)) X.stack)
    (ha : ∀ b ∈ as, Apart X pins b ∧ H b = none) (hE : e ∈ as) (t : h'.TracedAtW (hideAll s.heap (frs X.stack ++ as)) e (.ref C) a0 fl) : ∃ T, Apart X pins T ∧ Flew X.s₀.heap H h' e C T fl := by
  obtain ⟨oe, vs, T, oT, ts, he, ⟨hc, h0⟩, hd, h1, hT, hne, hoT, hdT, h3⟩ := t
  have far : Apart X pins T ∧ H T = none := by
    cases q : s.heap.get? T with
    | none =>
      refine ⟨I.apart hx q, ?_⟩
      cases w : H T with
      | none => rfl
      | some o =>
        obtain ⟨u, z⟩ := (I.hok T o w).there
        rw [q] at z; cases z
    | some o =>
      by_cases hm : T ∈ frs X.stack ++ as
      · rcases List.mem_append.mp hm with hm | hm
        · obtain ⟨_, o', q', n⟩ := hl.mem hm
          rw [hoT] at q'; cases q'
          exact absurd hdT (n ts)
        · exact ha T hm
      · rw [hideAll_get _ q hm] at hT; cases hT
  exact ⟨T, far.1, (ha e hE).1.new, far.1.new, (ha e hE).2, far.2, hne, oe, vs, a0, oT, ts, he, hc, hd, h0, h1, hoT, hdT, h3⟩
theorem two_of {a b : Addr} (pe : Apart X pins a ∧ H a = none) (pT : Apart X pins b ∧ H b = none) : ∀ c ∈ [a, b], Apart X pins c ∧ H c = none := fun c hc => by
  rcases List.mem_cons.mp hc with rfl | hc
  · exact pe
  · obtain rfl := List.mem_singleton.mp hc; exact pT
theorem Inv.flownB {as : List Addr} {h' : Heap} {t' : Nat} (I : Inv X pins σ H s) (ha : ∀ b ∈ as, Apart X pins b ∧ H b = none) (k : (hideAll s.heap (frs X.stack ++ as)).StaysIn h') (u : s.heap.UpToSlots h') : Inv X pins σ H { s with heap := h', toks := t' } :=
  Inv.flown (ch := as) I ha (fun b o q n1 n2 => k b o (hideAll_get _ q fun z => (List.mem_append.mp z).elim n1 n2)) u
theorem frames_hid (I : Inv X pins σ H s) (hst : X.stack = X.env :: X.outer) (as : List Addr) : s.heap.FunFrames (hideAll s.heap (frs X.stack ++ as)) (X.env :: X.outer) := by
  have st := I.stack
  rw [hst] at st ⊢
  exact funFrames_hide st fun env he a hf => List.mem_append_left _ (mem_frs env he a hf)

/-- it is noted in the frame -/
theorem note_in {M : Model} {EE : Value → Shared → Prop} (I : Inv X pins σ H s) (hx : X.ex = []) (hst : X.stack = X.env :: X.outer) (hf : X.env.frame = some X.env.locals) (pe : Apart X pins e) (pT : Apart X pins T) (fy : Fly X.s₀.heap H s.heap e C T) :
    wpAny M X.A (noteFrame (.ref e) X.env) (fun _ s' => ∃ h' T', s' = { s with heap := h' } ∧ s.heap.UpToSlots h' ∧ Inv X pins σ H s' ∧ Apart X pins T' ∧ Flew X.s₀.heap H h' e C T' (rawInt X.env.locals)) EE s := by
  obtain ⟨nE, nT, fE, fT, ne, oe, vs, a0, oT, ts, he, hcl, hd, h0, h1, hT, hdT, h3⟩ := fy
  have two := two_of ⟨pe, fE⟩ ⟨pT, fT⟩
  refine wpAny_looks_onW (cls := .ref C) (a0 := a0) (base := hideAll s.heap (frs X.stack ++ [e, T])) (by rw [I.ok.frames, hst]) hf
    ⟨fun b o q => of_hideAll _ q, hideAll_none _ (by simp), frames_hid I hst _, oe, vs, T, oT, ts, he, ⟨hcl, h0⟩, hd, h1, hideAll_none _ (by simp), ne, hT, hdT, h3⟩ fun h' hw u => ?_
  obtain ⟨k1, _, k2, k3⟩ := hw
  rw [← hst] at k2
  obtain ⟨T', pT', fw⟩ := I.entryF hx k2 two List.mem_cons_self k3
  exact ⟨h', T', rfl, u, I.flownB (t' := s.toks) two k1 u, pT', fw⟩

/-- it leaves the frame, however its entry is marked -/
theorem leave_flew {M : Model} {EE : Value → Shared → Prop} (I : Inv X pins σ H s) (hx : X.ex = []) (hst : X.stack = X.env :: X.outer) (hf : X.env.frame = some X.env.locals) (pe : Apart X pins e) (pT : Apart X pins T)
    (fw : Flew X.s₀.heap H s.heap e C T fl) (hE : E (.ref C) none H) : wpAny M X.A (leaving X.env (.ref e)) (fun _ s' => CXF X.prog X.w X.outer X.H₀ X.s₀ E (.ref e) s') EE s := by
  obtain ⟨nE, nT, fE, fT, ne, oe, vs, a0, oT, ts, he, hcl, hd, h0, h1, hT, hdT, h3⟩ := fw
  have two := two_of ⟨pe, fE⟩ ⟨pT, fT⟩
  have hn1 : (hideAll s.heap (frs X.stack ++ [e, T])).get? e = none := hideAll_none _ (by simp)
  have hn2 : (hideAll s.heap (frs X.stack ++ [e, T])).get? T = none := hideAll_none _ (by simp)
  have kb : (hideAll s.heap (frs X.stack ++ [e, T])).StaysIn s.heap := fun b o q => of_hideAll _ q
  have ff := frames_hid I hst [e, T]
  have fin : ∀ h' : Heap, (hideAll s.heap (frs X.stack ++ [e, T])).StaysIn h' → h'.FunFrames (hideAll s.heap (frs X.stack ++ [e, T])) (X.env :: X.outer) → h'.TracedW (hideAll s.heap (frs X.stack ++ [e, T])) e (.ref C) a0 → s.heap.UpToSlots h' →
      CXF X.prog X.w X.outer X.H₀ X.s₀ E (.ref e) { s with heap := h' } := fun h' k1 k2 k3 u => by
    have I' := I.flownB (t' := s.toks) two k1 u
    rw [← hst] at k2
    obtain ⟨T', pT', fw'⟩ := I.entryF hx k2 two List.mem_cons_self k3.at
    have un := I'.base
    rw [hx] at un
    exact ⟨e, C, T', H, rfl, I'.os, I'.bare, un, I'.hok, ⟨fw'.newE, fw'.newT, fw'.frE, fw'.frT, fw'.ne, fw'.obj⟩, hE⟩
  generalize hideAll s.heap (frs X.stack ++ [e, T]) = B at *
  have szT : 3 < ts.size := (Array.getElem?_eq_some_iff.mp h3).1
  unfold leaving noteFrame
  simp only [hf]
  refine wpAny_bind (wpAny_bind (wpAny_field he hd h1 ?_))
  rw [if_pos (show (Value.ref T != Value.none) = true by simp)]
  refine wpAny_bind (wpAny_field hT hdT h3 ?_)
  by_cases hq : (fl == rawInt X.env.locals) = true
  · rw [if_pos hq]
    exact wpAny_pure (wpAny_setFlight_noneW (fl := fl) kb ff ⟨oe, vs, T, oT, ts, he, ⟨hcl, h0⟩, hd, h1, hn2, ne, hT, hdT, h3⟩ fun h' a b c d => fin h' a b c fun x o q n => ⟨o.slots, d x o q n⟩)
  · rw [if_neg hq]
    refine wpAny_bind (wpAny_setField hT hdT szT ?_)
    have oth : ∀ b, b ≠ T → (s.heap.update T (Obj.mapFields (·.setIfInBounds 3 Value.none))).get? b = s.heap.get? b := fun b z => Heap.get?_update_other _ _ z.symm
    have nof : ∀ b o, s.heap.get? b = some o → (∀ zs, o.data ≠ .fields zs) → b ≠ T := fun b o q n z => by
      rw [z, hT] at q; cases q; exact n ts hdT
    have hL := wpAny_newEntryW (M := M) (A := X.A) (E := EE) (base := B) (s := { s with heap := s.heap.update T (Obj.mapFields (·.setIfInBounds 3 Value.none)) }) (head := .ref T) (a0 := a0) (hadNext := true)
      (Q := fun _ s' => CXF X.prog X.w X.outer X.H₀ X.s₀ E (.ref e) s') (by rw [I.ok.frames, hst]) (ff.of_keeps fun b o q n => ⟨o, (oth b (nof b o q n)).trans q, rfl⟩) hf ((oth e ne.symm).trans he)
      (fun b o q => (oth b fun z => by rw [z, hn2] at q; cases q).trans (kb b o q)) hn1 hd (Array.getElem?_eq_some_iff.mp h1).1 h0 fun h' ⟨a, b, c, d⟩ => by
        rw [hcl] at c
        exact fin h' a b c fun x o q n => d x o ((oth x (nof x o q n)).trans q) n
    exact hL
end
/-- a body whose exceptions, noted ones too, are wanted as E -/
structure ThrowsF (X : Cx) (E : XK) : Prop where
  ex : X.ex = []
  stk : X.stack = X.env :: X.outer
  frm : X.env.frame = some X.env.locals
  xe : ∀ (pins : Pn) (σ : St) (H : Hp) (s : Shared) (e C T : Addr) (fl : Value), Inv X pins σ H s → Apart X pins e → Apart X pins T → Flew X.s₀.heap H s.heap e C T fl → E (.ref C) none H → X.xe (.ref e) s
theorem throwsF {N : List Str} {qual : Str} {scope : Scope} {f : Addr} {cd : Value} {A : Around} {outer : List Env} {s : Shared} {H : Hp} {E : XK} :
    ThrowsF (cxOf (CXF P w) P w K mg base N qual scope f cd A outer s H E) E :=
  ⟨rfl, rfl, rfl, fun _ _ _ _ _ _ _ _ I pe pT fw hE => leave_flew I rfl rfl rfl pe pT fw hE⟩

/-- an expression of a block: what it refuses comes out of a call -/
def PEB (X : Cx) (E : XK) (e : Expr) (t : TE) : Prop :=
  ∀ (pins : Pn) (s : Shared) (σ : St) (H : Hp) (Q : VK), Inv X pins σ H s → t σ H Q → wpAny (model X.prog X.w) X.A (eval e X.env) (EP X pins σ Q) (fun v s' => ∃ s1 H1, Inv X pins σ H1 s1 ∧ CXF X.prog X.w X.stack H1 s1 E v s') s
section
variable {X : Cx} {k : Nat} {f : Addr} {fd : FuncData} {ps : List Str} {sp : Sp} {dvs : List V} {ds : List Value} {E : XK} {x : Str} {p pos : Pos} {e : Expr} {es : List Expr} {t : TA}
theorem peb_call (F : FnOk X.prog X.w X.K X.mg X.base (CXF X.prog X.w) k f fd ps sp) (hr : Room k X.A) (hg : Gl X x) (hm : X.mg x = some (.ref f)) (hk : PySem.W.keepIn X.K (.ref f) = true) (hb : Binds X.K fd ps ds) (hd : Vals dvs ds) (hx : ∀ v s, X.xe v s → False)
    (ha : PA X (e :: es) t) (hdb : (x == ("__debug__" : Str)) = false := by decide) (he : starEach (e :: es) X.env = (false, eval e X.env) :: starEach es X.env := by rfl) (hpl : (backTo pos (starEach es X.env)).any (·.1) = false := by rfl) :
    PEB X E (.Call (.Name x p) (e :: es) [] pos) (tCall sp dvs E t) := by
  intro pins s σ H Q I h
  refine wpAny_Call_Name_kw (ld_glob I hg hm ?_ hdb)
  refine PySem.W.callWith_K (h₀ := X.base) I.ok.mod.kin hk (wpAny_mono (ha pos pins s σ H _ I h) (fun us s1 ⟨vs, H1, I1, r, q⟩ => ⟨I1.kIn, ?_⟩) fun v s1 z => (hx v s1 z).elim) he hpl
  have r2 : Vals (vs ++ dvs) (us ++ ds) := r.append hd
  have hl : (us ++ ds).length = ps.length := by rw [← r2.length]; exact F.len _ _ _ _ q
  refine wpAny_call (codeAny_mono (F.run X.A X.stack s1 H1 ⟨us, []⟩ (us ++ ds) (vs ++ dvs) Q E hr I1.env0 (hb s1 us I1.kIn hl) r2 q) fun r s' hq => ?_)
  cases r with
  | error v => exact ⟨s1, H1, I1, hq⟩
  | ok fl => cases fl <;> first | exact I1.after hq | exact False.elim hq
end
section
variable {prog : Program} {w : World} {A : Around} {R : Result → Shared → Prop} {s : Shared}
/-- a comprehension's loop whose element may refuse -/
theorem comp_loopX {elt target iter : Expr} {ifs : List Expr} {scope : Scope} {pos : Pos} {it acc : Value} {env : Env} (EE : Value → Shared → Prop) (hEE : ∀ x s, EE x s → notedBy (model prog w) A env (fun e s' => R (.error e) s') x s) (I : Nat → Shared → Prop)
    (turn : ∀ n s, I n s → wpAny (model prog w) A (pyNext it) (fun r s₁ => match r with
      | none => R (.ok .next) s₁
      | some v => wpAny (model prog w) A (letOwnedTupleGo target it v) (fun _ s₁ => wpAny (model prog w) A (assign target env v) (fun _ s₂ =>
          wpAny (model prog w) A (forIn ifs true fun c r => if r = true then do let ok ← isTrue c env (eval c env); pure (ForInStep.yield ok) else pure (ForInStep.yield r)) (fun ok s₃ =>
            if ok = true then wpAny (model prog w) A (eval elt env) (fun x s₄ =>
              wpAny (model prog w) A (call (.builtin "list.append") [acc, x]) (fun _ s₅ => ∃ m, m < n ∧ I m s₅) NoE s₄) EE s₃
            else ∃ m, m < n ∧ I m s₃) NoE s₂) NoE s₁) NoE s₁) NoE s)
    (n : Nat) (h : I n s) :
    codeAny (model prog w) A (.compLoop (.ListComp elt [⟨target, iter, ifs, 0⟩] scope pos) 0 it acc env) R s := by
  refine codeAny_loop rfl I (fun n s hI => ?_) n h
  show wpAny _ A ((compTurn (.ListComp elt [⟨target, iter, ifs, 0⟩] scope pos) 0 it acc env).onRaise (fun x => do noteFrame x env; theTreesLotGoes x)) _ _ s
  refine wpAny_noted ?_
  rw [compTurn_list]
  refine wpAny_bind (wpAny_standAt (wpAny_bind (wpAny_mono (turn n s hI) (fun r s₁ h₁ => ?_) fun _ _ z => False.elim z)))
  cases r with
  | none => exact wpAny_pure h₁
  | some v =>
    refine wpAny_bind (wpAny_mono h₁ (fun _ s₂ h₂ => wpAny_bind (wpAny_mono h₂ (fun _ s₃ h₃ => wpAny_bind (wpAny_mono h₃ (fun ok s₄ h₄ => ?_) fun _ _ z => False.elim z)) fun _ _ z => False.elim z)) fun _ _ z => False.elim z)
    cases ok with
    | false => exact wpAny_pure ⟨rfl, h₄⟩
    | true => exact wpAny_bind (wpAny_bind (wpAny_mono h₄ (fun x s₅ h₅ => wpAny_bind (wpAny_mono h₅ (fun _ s₆ h₆ => wpAny_pure (wpAny_pure ⟨rfl, h₆⟩)) fun _ _ z => False.elim z)) fun x s₅ z => hEE x s₅ z))
end
section
variable {X : Cx} {elt iter : Expr} {x : Str} {px pos : Pos} {ifs : List Expr} {sc : Scope} {N : List Str} {fr : List Nat} {wi : TI} {tc : TT} {te : TE} {Er : XK}
/-- the heart, where the element may refuse -/
theorem comp_coreX (S : BlkScope X.env.scope X.N sc x N fr) (hcalm : X.calm = true) (hc : ∀ C ex s H, PIfs (blk X sc (x :: N) C ex s H) ifs tc) (he : ∀ C ex s H, PEB (blk X sc (x :: N) C ex s H) Er elt te)
    {pins : Pn} {σ : St} {H : Hp} {s : Shared} {E : Value → Shared → Prop} {it : Addr} {fp : List Addr} {tn : Nat → Heap → Prop} {J : It} {Q : VK} {RR : Value → Addr → Result → Shared → Prop}
    (I : Inv X pins σ H s) (T : Turn X.prog X.w X.K (.Name x px) J fp it tn) (st : tn 0 s.heap) (f2 : ∀ b ∈ fp, FpOk X pins H b)
    (hW : ∃ W : Nat → Nat → List V → Hp → Prop, (∃ m, W 0 m [] H) ∧ ∀ i m ys H, W i m ys H →
      (J.stop i H ∧ ys.length ≤ sizeLine ∧ ∀ p, H p = none → Q (.ref p) (upd H p (.lst ys))) ∨
      (J.go i H ∧ ys.length < sizeLine ∧ ∃ N : List V → Hp → Prop, (∀ ys' H', N ys' H' → ∃ m', m' < m ∧ W (i + 1) m' ys' H') ∧ ∀ v H', J.yld i H v H' → tc (some v :: seen σ fr) H' fun b H2 =>
        if b = true then te (some v :: seen σ fr) H2 fun y H3 => N (ys ++ [y]) H3 else N ys H2))
    (hRR : ∀ (D C : Addr) (H' : Hp) (s' : Shared), Inv X pins σ H' s' → (∃ o, s'.heap.get? C = some o ∧ (∃ m, s'.heap.Ns C m) ∧ ∀ v, o.data ≠ .cell v) → FpOk X pins H' C → Q (.ref D) H' → RR (.ref D) C (.ok .next) s')
    (hER : ∀ (D C : Addr) (H1 H' : Hp) (s1 s' : Shared) (a Cc T : Addr), Inv X pins σ H1 s1 → Inv X pins σ H' s' → (∃ m, s'.heap.Ns C m) → FpOk X pins H' C → Fly s1.heap H' s'.heap a Cc T → Er (.ref Cc) none H' → notedBy (model X.prog X.w) X.A X.env (fun e s2 => RR (.ref D) C (.error e) s2) (.ref a) s') :
    wpAny (model X.prog X.w) X.A (newList []) (fun acc s₃ => wpAny (model X.prog X.w) X.A (newFunctionEnv sc X.env.globals (closGo X.env sc.names []) [] X.env.qual none .none (some X.env)) (fun cenv s₄ =>
      codeAny (model X.prog X.w) X.A (.compStart (.ListComp elt [⟨.Name x px, iter, ifs, 0⟩] sc pos) 0 (.ref it) acc { cenv with scope := relabel sc X.env }) (RR acc cenv.locals) s₄) E s₃) E s := by
  obtain ⟨W, ⟨m0, w0⟩, turn⟩ := hW
  have hlt : ∀ b ∈ fp, b < s.heap.objs.size := fun b hb => let ⟨o, e, _⟩ := T.obj _ _ st b hb; Heap.lt_size e
  refine wpAny_newObj_type (wpAny_newFunctionEnv S.nocell (by intro y hy; simp at hy) (fun h₁ hns₁ hsb₁ => ?_) S.kind)
  dsimp only at hns₁ hsb₁ ⊢
  generalize hH2 : s.heap.push { cls := .type "list", dict := none, data := .seq ([] : List Value).toArray } = H2 at hns₁ hsb₁ ⊢
  have hC : H2.objs.size = s.heap.objs.size + 1 := by rw [← hH2, Heap.size_push]
  have hDC : s.heap.objs.size ≠ H2.objs.size := by rw [hC]; exact Nat.ne_of_lt (Nat.lt_succ_self _)
  have hCle : s.heap.objs.size ≤ H2.objs.size := by rw [hC]; exact Nat.le_succ _
  have old : ∀ b o, s.heap.get? b = some o → h₁.get? b = some o := fun b o e =>
    hsb₁.extBut b o (by rw [hC]; exact Nat.ne_of_lt (Nat.lt_succ_of_lt (Heap.lt_size e))) (Heap.get?_push_of_some _ (hH2 ▸ Heap.get?_push_of_some _ e))
  have eD : h₁.get? s.heap.objs.size = some (lob [] 0) := hsb₁.extBut _ _ hDC (Heap.get?_push_of_some _ (hH2 ▸ Heap.get?_push_size _ rfl))
  -- the block's own facts
  have fpX : ∀ {H' : Hp} {o : Obj}, (∀ b ∈ fp, H' b = none) → ∀ b ∈ fp, FpOk (blk X sc (x :: N) H2.objs.size fp s H) [(s.heap.objs.size, o)] H' b := fun {H' o} hn b hb => by
    refine ⟨hn b hb, Nat.ne_of_lt (Nat.lt_of_lt_of_le (hlt b hb) hCle), fun z => ?_, .inl hb, fun y c h => (f2 b hb).2.2.2.2.1 y c (I.clos S h), fun p hp z => ?_⟩
    · rcases List.mem_cons.mp (I.stkSub b z) with q | q
      · exact (f2 b hb).2.1 q
      · exact (f2 b hb).2.2.1 q
    · have hp : p = (s.heap.objs.size, o) := by simpa using (show p ∈ [] ++ [(s.heap.objs.size, o)] from hp)
      subst hp
      exact absurd (hlt b hb) (by rw [← z]; exact Nat.lt_irrefl _)
  have pinD : ∀ {pl : Pn} {σ' : St} {H' : Hp} {s' : Shared} {its : List Value} {n : Nat}, Inv (blk X sc (x :: N) H2.objs.size fp s H) pl σ' H' s' → s'.heap.get? s.heap.objs.size = some (lob its n) → H' s.heap.objs.size = none →
      Inv (blk X sc (x :: N) H2.objs.size fp s H) [(s.heap.objs.size, lob its n)] σ' H' s' := fun {pl σ' H' s' its n} J' e hn => by
    refine J'.pins_of fun p hp => ?_
    have hp : p = (s.heap.objs.size, lob its n) := by simpa using hp
    subst hp
    refine ⟨e, hn, hDC, fun z => ?_, fun v z => by cases z⟩
    obtain ⟨_, o, ho, _⟩ := I.stack.mem z
    exact absurd (Heap.lt_size ho) (Nat.lt_irrefl _)
  have IX : Inv (blk X sc (x :: N) H2.objs.size fp s H) [(s.heap.objs.size, lob [] 0)] (none :: seen σ fr) H { s with heap := h₁, toks := s.toks + ([] : List (Str × Value)).length } :=
    pinD (blk_start I S hCle f2 hlt ⟨_, hns₁⟩ old) eD (I.hok.fresh (Nat.le_refl _))
  have st₁ : tn 0 h₁ := T.keep _ _ _ st fun b _ o e => old b o e
  have loop : ∀ s₃ : Shared, s₃ = { s with heap := h₁, toks := s.toks + ([] : List (Str × Value)).length } →
      codeAny (model X.prog X.w) X.A (.compLoop (.ListComp elt [⟨.Name x px, iter, ifs, 0⟩] sc pos) 0 (.ref it) (.ref s.heap.objs.size) (blk X sc (x :: N) H2.objs.size fp s H).env)
        (RR (.ref s.heap.objs.size) H2.objs.size) s₃ := by
    rintro s₃ rfl
    have out : ∀ {pl : Pn} {σ' : St} {H' : Hp} {s' : Shared}, Inv (blk X sc (x :: N) H2.objs.size fp s H) pl σ' H' s' → Inv X pins σ H' s' := fun J =>
      I.call' (ch := fp) J.os J.base J.hok J.bare fun b hb => ⟨(f2 b hb).2.2.2.1, (f2 b hb).2.1, (f2 b hb).2.2.2.2.1, (f2 b hb).2.2.2.2.2⟩
    have erS : ∀ (v : Value) (s9 : Shared), (∃ pl σ' s1 H1, Inv (blk X sc (x :: N) H2.objs.size fp s H) pl σ' H1 s1 ∧ CXF X.prog X.w X.stack H1 s1 Er v s9) →
        notedBy (model X.prog X.w) X.A (blk X sc (x :: N) H2.objs.size fp s H).env (fun e s2 => RR (.ref s.heap.objs.size) H2.objs.size (.error e) s2) v s9 := by
      rintro v s9 ⟨pl, σ', s1, H1, I1, a, Cc, T', H', rfl, os, bare, un, hok, fl, q⟩
      have I9 := I1.call' (ch := []) os un hok bare (fun b z => absurd z (by simp))
      obtain ⟨mC, nsC, _⟩ := I9.loc
      exact hER _ _ H1 H' s1 s9 a Cc T' (out I1) (out I9) ⟨mC, nsC⟩ (I.fpOk hCle I9.free) fl q
    refine comp_loopX (fun v s9 => ∃ pl σ' s1 H1, Inv (blk X sc (x :: N) H2.objs.size fp s H) pl σ' H1 s1 ∧ CXF X.prog X.w X.stack H1 s1 Er v s9) erS (fun n s' => ∃ i v0 its c ys H', Inv (blk X sc (x :: N) H2.objs.size fp s H) [(s.heap.objs.size, lob its c)] (v0 :: seen σ fr) H' s' ∧ Vals ys its ∧ tn i s'.heap ∧ (∀ b ∈ fp, H' b = none) ∧ W i n ys H') ?_ m0
      ⟨0, none, [], 0, [], H, IX, .nil, st₁, fun b hb => (f2 b hb).1, w0⟩
    rintro n s4 ⟨i, v0, its, c, ys, H4, I4, rv, st4, fr4, w4⟩
    have pD := I4.pin (s.heap.objs.size, lob its c) (List.mem_append_right _ (List.mem_singleton.mpr rfl))
    rcases turn i n ys H4 w4 with ⟨stop, hz, fin⟩ | ⟨go, hz, NN, hNN, step⟩
    · refine thn (T.done (blk X sc (x :: N) H2.objs.size fp s H) rfl rfl rfl hcalm i _ s4 _ H4 NoE I4 (fpX fr4) st4 stop) fun r s5 ⟨hr, I5⟩ => ?_
      subst hr
      obtain ⟨e5, n5, _⟩ := I5.pin (s.heap.objs.size, lob its c) (List.mem_append_right _ (List.mem_singleton.mpr rfl))
      have e5 : s5.heap.get? s.heap.objs.size = some (lob its c) := e5
      have n5 : H4 s.heap.objs.size = none := n5
      have IF : Inv X pins σ (upd H4 s.heap.objs.size (.lst ys)) s5 := I.call' (ch := fp) I5.os (Un.track I5.base n5 (Nat.le_refl _)) (HOk.track I5.hok n5 ⟨hz, its, c, rv, e5⟩) I5.bare
        fun b hb => ⟨(f2 b hb).2.2.2.1, (f2 b hb).2.1, (f2 b hb).2.2.2.2.1, (f2 b hb).2.2.2.2.2⟩
      obtain ⟨mC, nsC, _⟩ := I5.loc
      obtain ⟨oC, esC, epC, hoC, hdC, _⟩ := id nsC
      refine hRR _ _ _ s5 IF ⟨oC, hoC, ⟨mC, nsC⟩, fun v z => by rw [hdC] at z; cases z⟩ (I.fpOk hCle ?_) (fin _ n5)
      rw [upd_ne (Ne.symm hDC)]
      exact I5.free
    · refine thn (T.item (blk X sc (x :: N) H2.objs.size fp s H) rfl rfl rfl hcalm i _ s4 _ H4 NoE I4 (fpX fr4) st4 go) fun r s5 ⟨u, hr, h5⟩ => ?_
      subst hr
      refine thn h5 fun _ s6 ⟨v, H6, I6, r6, y6, st6, fr6⟩ => ?_
      have I6' := I6.pinned (fpX fr6) (T.obj _ _ st6)
      refine wpAny_assign_Name (store_ok (i := 0) I6' S.nd rfl (.inl (lookup_relabel_local S.xl)) r6 (fun s7 I7 => ?_) (.inr (lookup_relabel_local S.xl)))
      have I7 : Inv (blk X sc (x :: N) H2.objs.size fp s H) ([(s.heap.objs.size, lob its c)] ++ pinsAt fp s6.heap) (some v :: seen σ fr) H6 s7 := I7
      refine thn (hc _ _ _ _ _ s7 _ H6 _ I7 (step v H6 y6)) fun b s8 ⟨H8, I8, q8⟩ => ?_
      have atFp : ∀ {σ' : St} {H' : Hp} {s' : Shared}, Inv (blk X sc (x :: N) H2.objs.size fp s H) ([(s.heap.objs.size, lob its c)] ++ pinsAt fp s6.heap) σ' H' s' → tn (i + 1) s'.heap ∧ ∀ b ∈ fp, H' b = none := fun {σ' H' s'} J' => by
        refine ⟨T.keep _ _ _ st6 fun b hb o e => (J'.pin (b, o) (List.mem_append_right _ (List.mem_append_right _ (mem_pinsAt hb e)))).1, fun b hb => ?_⟩
        obtain ⟨o, e, _⟩ := T.obj _ _ st6 b hb
        exact (J'.pin (b, o) (List.mem_append_right _ (List.mem_append_right _ (mem_pinsAt hb e)))).2.1
      cases b with
      | false =>
        have q8 : NN ys H8 := q8
        obtain ⟨m', hm, w8⟩ := hNN _ _ q8
        obtain ⟨a1, a2⟩ := atFp I8
        exact ⟨m', hm, i + 1, some v, its, c, ys, H8, I8.unpinned, rv, a1, a2, w8⟩
      | true =>
        refine wpAny_mono (he _ _ _ _ _ s8 _ H8 _ I8 q8) (fun y s9 ⟨yv, H9, I9, r9, q9⟩ => ?_) fun v s9 ⟨s1, H1, I1, z⟩ => ⟨_, _, s1, H1, I1, z⟩
        obtain ⟨m', hm, w9⟩ := hNN _ _ q9
        obtain ⟨e9, n9, _⟩ := I9.pin (s.heap.objs.size, lob its c) (List.mem_append_right _ (List.mem_append_left _ (List.mem_singleton.mpr rfl)))
        have e9 : s9.heap.get? s.heap.objs.size = some (lob its c) := e9
        have n9 : H9 s.heap.objs.size = none := n9
        obtain ⟨a1, a2⟩ := atFp I9
        have hl : ys.length = its.length := rv.length
        refine call_meets F.slot_list_append ⟨_, e9, rfl⟩ F.entry_list_append (F.args_list_append_2 _ _) (PySem.list_append s.heap.objs.size its.toArray c y (by rw [List.size_toArray]; omega)) ⟨e9, ?_⟩
        have q := PySem.IsL.update e9 (·.push y)
        have hpush : its.toArray.push y = (its ++ [y]).toArray := by simp
        rw [hpush] at q
        have kO : ∀ b o, b ≠ s.heap.objs.size → s9.heap.get? b = some o → (s9.heap.update s.heap.objs.size (Obj.mapSeq (·.push y))).get? b = some o := fun b o hb e => (Heap.get?_update_other s9.heap _ (Ne.symm hb)).trans e
        have J1 : Inv (blk X sc (x :: N) H2.objs.size fp s H) [] (some v :: seen σ fr) H9 s9 := I9.pins_of fun p hp => absurd hp (by simp)
        have J2 := J1.turned (it := s.heap.objs.size) (t' := s9.toks) kO n9 hDC (.inr (Nat.le_refl _)) (fun z cc h e => by
          obtain ⟨vv, o, ho, _⟩ := I.cell z cc (I.clos S h)
          exact absurd (Heap.lt_size ho) (by rw [e]; exact Nat.lt_irrefl _)) (fun p hp => absurd (show p ∈ ([] : Pn) from hp) (by simp))
        refine ⟨m', hm, i + 1, some v, its ++ [y], _, ys ++ [yv], H9, pinD J2 q n9, rv.append (.cons r9 .nil), T.keep _ _ _ a1 fun b hb o e => kO b o (Nat.ne_of_lt (hlt b hb)) e, a2, w9⟩
  exact codeAny_compStart_list (loop _ rfl) (T.self _ 0 _ _ _ st₁ (loop _ rfl))

/-- behind a refusal: the list's names go, the exception goes on -/
theorem comp_err {M : Model} {pins : Pn} {σ : St} {use : Option (Value → Sem Unit)} {Q : Value → Shared → Prop} {D : Value} {C : Addr} {H1 H' : Hp} {s1 s' : Shared} {a Cc T : Addr} (tx : ThrowsF X Er)
    (I1 : Inv X pins σ H1 s1) (I : Inv X pins σ H' s') (hn : ∃ m, s'.heap.Ns C m) (fC : FpOk X pins H' C) (fl : Fly s1.heap H' s'.heap a Cc T) (q : Er (.ref Cc) none H') : notedBy M X.A X.env (fun e s2 => compPost M X.A X.xe use Q D C (.error e) s2) (.ref a) s' := by
  obtain ⟨m, hn⟩ := hn
  obtain ⟨f0, f1, f3, f4, f5, f6⟩ := fC
  have pe := I1.apart tx.ex fl.newE
  have pT := I1.apart tx.ex fl.newT
  refine wpAny_mono (note_in I tx.ex tx.stk tx.frm pe pT ⟨pe.new, pT.new, fl.frE, fl.frT, fl.ne, fl.obj⟩) (fun _ s2 ⟨h', T', e2, u, I2, pT', fw⟩ => ?_) fun _ _ z => z
  subst e2
  have post : ∃ m, h'.Ns C m ∧ ∀ h2, Heap.SameBut C h' h2 → ∀ cenv : Env, cenv.locals = C → wpAny M X.A (PySem.passOn "comprehension.variables-let-go" (.ref a) cenv : Sem Value) (fun _ _ => False) X.xe { s' with heap := h2 } := by
    have hn2 := u.ns hn
    refine ⟨m, hn2, fun h2 hsb cenv _ => ?_⟩
    have I3 : Inv X pins σ H' { s' with heap := h2 } := I2.turned (t' := s'.toks) (fun b ob hb e => (hsb.2 b hb).trans e) f0 f1 f4 f5 f6
    obtain ⟨nE, nT, fE, fT, ne, oe, vs, a0, oT, ts, he, hcl, hd, h0, h1, hT, hdT, h3⟩ := fw
    obtain ⟨oC, esC, epC, hoC, hdC, _⟩ := hn2
    have ha : a ≠ C := fun z => by rw [z, hoC] at he; cases he; rw [hdC] at hd; cases hd
    have hb : T' ≠ C := fun z => by rw [z, hoC] at hT; cases hT; rw [hdC] at hdT; cases hdT
    have he2 := (hsb.2 a ha).trans he
    have hT2 := (hsb.2 T' hb).trans hT
    have szT : 3 < ts.size := (Array.getElem?_eq_some_iff.mp h3).1
    unfold PySem.passOn setFlight
    refine wpAny_bind (wpAny_field he2 hd h1 ?_)
    rw [if_neg (show ¬ ((Value.ref T' == Value.none) = true) by simp)]
    refine wpAny_bind (wpAny_bind (wpAny_field he2 hd h1 ?_))
    rw [if_pos (show (Value.ref T' != Value.none) = true by simp)]
    refine wpAny_setField hT2 hdT szT (wpAny_throw ?_)
    have dT := Obj.data_mapFields hdT (·.setIfInBounds 3 (cenv.frame.elim Value.none fun f => rawInt f))
    have oth : ∀ b, b ≠ T' → (h2.update T' (Obj.mapFields (·.setIfInBounds 3 (cenv.frame.elim Value.none fun f => rawInt f)))).get? b = h2.get? b := fun b z => Heap.get?_update_other _ _ z.symm
    refine tx.xe pins σ H' _ a Cc T' (cenv.frame.elim Value.none fun f => rawInt f) (Inv.flown (ch := [T']) (t' := s'.toks) I3 (fun b z => ?_) (fun b o z _ n2 => ?_) fun b o z n => ?_) pe pT' ⟨nE, nT, fE, fT, ne, oe, vs, a0, _, _, (oth a (Ne.symm ne)).trans he2, hcl, hd, h0, h1, Heap.get?_update_self _ hT2 (Obj.isFreed_of_fields dT), dT, by simp [szT]⟩ q
    · obtain rfl := List.mem_singleton.mp z
      exact ⟨pT', fT⟩
    · exact (oth b fun w => n2 (by simp [w])).trans z
    · refine ⟨o.slots, (oth b fun w => ?_).trans z⟩
      have z : h2.get? b = some o := z
      rw [w, hT2] at z; cases z; exact n ts hdT
  cases use <;> exact post

theorem pe_compX (tx : ThrowsF X Er) (S : BlkScope X.env.scope X.N sc x N fr) (hcalm : X.calm = true) (hi : PI X (.Name x px) iter wi) (hc : ∀ C ex s H, PIfs (blk X sc (x :: N) C ex s H) ifs tc) (he : ∀ C ex s H, PEB (blk X sc (x :: N) C ex s H) Er elt te)
    (hs : ∀ v, foldedSetIterable iter X.env v = pure v := by intro _; rfl) : PE X (.ListComp elt [⟨.Name x px, iter, ifs, 0⟩] sc pos) (tComp wi fr tc te) := by
  intro pins s σ H Q I h
  rw [eval_ListComp]
  refine wpAny_comprehension_free (use := none) rfl hs (closFor (I.cells S)) S.kind S.names (thn (hi pins s σ H _ I h) fun v s1 h1 => thn h1 fun itv s2 h2 => ?_)
  obtain ⟨it, fp, tn, J, H2, e, I2, T, st2, f2, hW⟩ := h2
  subst e
  refine comp_coreX (RR := fun acc C => compPost (model X.prog X.w) X.A X.xe none (EP X pins σ Q) acc C) S hcalm hc he I2 T st2 f2 hW (fun D C H' s' I' ⟨o, ho, ⟨m, hn⟩, hd⟩ fC q => ?_) fun D C H1 H' s1 s' a Cc T J1 J' hn fC fl q => comp_err tx J1 J' hn fC fl q
  obtain ⟨f0, f1, f3, f4, f5, f6⟩ := fC
  exact ⟨m, hn, fun h' hsb => ⟨.ref D, H', I'.turned (t' := s'.toks) (fun b ob hb e => (hsb.2 b hb).trans e) f0 f1 f4 f5 f6, rfl, q⟩⟩

theorem ps_setCompX {i : Nat} {y : Str} {py spos : Pos} (tx : ThrowsF X Er) (S : BlkScope X.env.scope X.N sc x N fr) (hcalm : X.calm = true) (hN : X.N.Nodup) (hi' : X.N[i]? = some y) (hy : Loc X.env.scope y) (hi : PI X (.Name x px) iter wi)
    (hc : ∀ C ex s H, PIfs (blk X sc (x :: N) C ex s H) ifs tc) (he : ∀ C ex s H, PEB (blk X sc (x :: N) C ex s H) Er elt te)
    (hsw : swapsWith (.ListComp elt [⟨.Name x px, iter, ifs, 0⟩] sc pos) (some (.Name y py)) spos.line X.env = pure true := by rfl)
    (hf : X.fn y = true ∨ X.env.scope.names.lookup y = some .local := by first | exact .inl rfl | exact .inr rfl | assumption)
    (hs : ∀ v, foldedSetIterable iter X.env v = pure v := by intro _; rfl) : PS X (.Assign [.Name y py] (.ListComp elt [⟨.Name x px, iter, ifs, 0⟩] sc pos) spos) (tAsg (tComp wi fr tc te) (gName i)) := by
  intro pins s σ H D I h
  rw [exec_Assign_Name_used _ _ _ _ hsw]
  refine wpAny_bind (wpAny_standAt (wpAny_bind ?_))
  show wpAny _ X.A (do let _ ← comprehension (.ListComp elt [⟨.Name x px, iter, ifs, 0⟩] sc pos) sc X.env _ (newList []) false (eval iter X.env) (some (assign (.Name y py) X.env))) _ _ s
  refine wpAny_bind (wpAny_mono (wpAny_comprehension_free (use := some (assign (.Name y py) X.env)) (Q := fun _ s' => SP X pins D .next s') rfl hs (closFor (I.cells S)) S.kind S.names
    (thn (hi pins s σ H _ I h) fun v s1 h1 => thn h1 fun itv s2 h2 => ?_)) (fun _ s' hq => wpAny_pure (wpAny_pure hq)) fun _ _ e => e)
  obtain ⟨it, fp, tn, J, H2, e, I2, T, st2, f2, hW⟩ := h2
  subst e
  refine comp_coreX (RR := fun acc C => compPost (model X.prog X.w) X.A X.xe (some (assign (.Name y py) X.env)) (fun _ s' => SP X pins D .next s') acc C) (Q := fun v H1 => gName i v σ H1 D.nx) S hcalm hc he I2 T st2 f2 hW (fun A C H' s' I' ⟨o, ho, ⟨m, hn⟩, hd⟩ fC q => ?_) fun D C H1 H' s1 s' a Cc T J1 J' hn fC fl q => comp_err tx J1 J' hn fC fl q
  obtain ⟨f0, f1, f3, f4, f5, f6⟩ := fC
  have IP : Inv X (pins ++ [(C, o)]) σ H' s' := I'.pins_of fun p hp => by
    rcases List.mem_append.mp hp with z | z
    · exact I'.pin p (List.mem_append_right _ z)
    · have z : p = (C, o) := by simpa using z
      subst z
      exact ⟨ho, f0, f1, f3, hd⟩
  show wpAny _ X.A (assign (.Name y py) X.env (.ref A)) _ _ s'
  refine wpAny_assign_Name (store_ok (v := .ref A) IP hN hi' hy rfl (fun s5 I5 => ?_) hf)
  have e5 := (I5.pin (C, o) (List.mem_append_right _ (List.mem_append_right _ (List.mem_singleton.mpr rfl)))).1
  refine ⟨m, hn.at' fun ob e => ?_, fun h' hsb => ⟨_, H', I5.unpinned.turned (t' := s5.toks) (fun b ob hb e => (hsb.2 b hb).trans e) f0 f1 f4 f5 f6, q⟩⟩
  rw [ho] at e
  cases e
  exact e5
end
end L2

/-! f"..{z!r}": what comes out is some text; calls of a block that may refuse, in short -/
namespace L2
open PySem PySem.Spec PyProof.Rows PySem.W
def jRep (te : TE) (t : TJ) : TJ := fun n σ H Q => te σ H fun v H1 => ∃ z : Str, v = .str z ∧ z.cps.all (· < 128) = true ∧ n + (10 * z.length + 2) ≤ sizeLine ∧ t (n + (10 * z.length + 2)) σ H1 Q
theorem pj_rep {X : Cx} {e : Expr} {es : List Expr} {te : TE} {t : TJ} {pos : Pos} (he : PE X e te) (h : PJ X es t) : PJ X (.FormattedValue e 114 none pos :: es) (jRep te t) := by
  intro pins s σ H Q out n I ho hq
  refine joinParts_cons (wpAny_FormattedValue_repr (thn (he pins s σ H _ I hq) fun v s1 ⟨y, H1, I1, r, z, e1, ha, hz, q⟩ => ?_))
  subst e1
  obtain ⟨tk, rfl⟩ := (show ∃ t, v = Value.str z t from r)
  have hl : (reprText z).length ≤ 10 * z.length + 2 := StrLaws.reprText_len z fun c hc => by
    rw [Array.all_eq_true'] at ha
    have := ha c (Array.mem_toList_iff.mp hc)
    simp at this
    omega
  refine wpAny_pyReprObj_str (formatField_str (fun t' k => ?_) (by omega)) (by omega)
  have hl2 : (out ++ reprText z).length ≤ n + (10 * z.length + 2) := by rw [strLen_append]; omega
  exact ⟨Nat.le_trans hl2 hz, h pins _ σ H1 Q _ _ (I1.tok _) hl2 q⟩
/-- where nothing is refused -/
theorem passF {P : Program} {w : World} {X : Cx} : Passes (CXF P w) X (fun _ _ _ => False) := by
  intro pins σ H s e s' I h
  obtain ⟨a, C, T, H', _, _, _, _, _, _, q⟩ := h
  exact q.elim
end L2
namespace LW
open PySem L2 PySem.W
theorem qcb {X : Cx} {n : Nat} {x : Str} {ps : List Str} {sp : Sp} {dss : List (List Value)} {e : Expr} {es : List Expr} {t : TA} {p pos : Pos} {E : XK} (D : DefX X.prog X.w X.K X.mg X.base n x ps sp ([] :: dss)) (hr : Room n X.A) (ha : PA X (e :: es) t)
    (hx : ∀ v s, X.xe v s → False := by intro _ _ z; exact z) (hg : Gl X x := by rfl) (hdb : (x == ("__debug__" : Str)) = false := by decide) (he : starEach (e :: es) X.env = (false, eval e X.env) :: starEach es X.env := by rfl) (hpl : (backTo pos (starEach es X.env)).any (·.1) = false := by rfl) :
    PEB X E (.Call (.Name x p) (e :: es) [] pos) (tCall sp [] E t) := let ⟨_, _, a, k, F, b⟩ := D; peb_call F hr hg a k (b [] List.mem_cons_self) .nil hx ha hdb he hpl
end LW

/-! NOTES that may be refused: the program's defs -/
namespace LW
open PySem L2 PySem.NumText
section
variable {C : Addr}
theorem cut_tail (x : V) (xs : List V) : cutV (x :: xs) (some 1) none = xs := by
  unfold cutV
  have h1 : HT.sIx (x :: xs).length 0 (some 1) = 1 := by
    rw [List.length_cons]
    simp [HT.sIx]
  rw [h1]
  show (xs).take ((x :: xs).length - 1) = xs
  rw [List.length_cons]
  exact List.take_of_length_le (by omega)
def RowB (H : Hp) (r : Row) (a : Addr) : Prop := ∃ l vs, H a = some (.tup [.str r.1, .ref l]) ∧ H l = some (.lst vs) ∧ Ths H r.2 vs
theorem RowB.same {H H' : Hp} {r : Row} {a : Addr} (s : Same H H') (h : RowB H r a) : RowB H' r a := let ⟨t, vs, h1, h2, h3⟩ := h; ⟨t, vs, s _ _ h1, s _ _ h2, Ths.keep (Tups.of_same s) h3⟩
theorem numOk_a {z : Str} (h : numOk z = true) : z.cps.all (· < 128) = true ∧ z.length ≤ 200 ∧ (isNumB z = true → ∃ n, PySem.intText? z = some n) := by
  unfold numOk at h
  simp only [Bool.and_eq_true, decide_eq_true_eq, Bool.or_eq_true, Bool.not_eq_true'] at h
  refine ⟨h.1.1.1, h.1.1.2, fun e => ?_⟩
  rcases h.1.2 with z1 | z1
  · rw [e] at z1; cases z1
  · exact Option.isSome_iff_exists.mp z1
theorem num_log {z : Str} {n : Int} (h : numOk z = true) (hn : numOf z = some n) : n.natAbs.log2 < 1900 := by
  unfold numOk at h
  simp only [Bool.and_eq_true] at h
  have h2 := h.2
  unfold numOf at hn
  split at hn
  · rw [hn] at h2
    have h3 : n.natAbs < 10 ^ 60 := of_decide_eq_true h2
    have : n.natAbs.log2 < 200 ∨ n.natAbs = 0 := by
      by_cases z0 : n.natAbs = 0
      · exact .inr z0
      · exact .inl ((Nat.log2_lt z0).mpr (Nat.lt_trans h3 (by decide)))
    rcases this with a | a
    · omega
    · rw [a]; decide
  · cases hn
def spIsNumB : Sp := fun vs H Q _ => ∃ z : Str, vs = [.str z] ∧ numOk z = true ∧ ∀ H', Same H H' → Q (.bl (isNumB z)) H'
theorem bs_f_is_number_0 : BlkScope (defScope s_f_is_number) ["word"] (compScope ((callArg 0 (retVal (stAt (defBody s_f_is_number) 2))))) "sign" [] [] :=
  bsk
theorem ok_f_is_number {f : Addr} (F : Fun K "is_number" "is_number" s_f_is_number f fd) (T : TX K mg C) {tmf tfg : Tok} (gmf : mg "MOST_FIGURES" = some (.int 40 tmf)) (gfg : mg "FIGURES" = some (.str "0123456789" tfg)) (gall : mg "all" = none)  :
    FnOk P w K mg base CX0 (n + 1) f fd ["word"] (spIsNumB) := by
  refine F.ok sc_f_is_number (by rintro _ _ _ _ ⟨_, rfl, _⟩; rfl) fun _ _ _ s H vs Q E hr h => ?_
  obtain ⟨z, rfl, hz, q⟩ := h
  have hu := hu_of hr
  refine ⟨_, (pss_cons (ps_if (PW.pt (pw_or (pt_cmpR op_lt (pe_callB call_len_str (by rfl) T.g_len PySem.boot_len (pa_cons (pv 0) pa_nil)) pe_int (nomark _)) (pw_or1 (pt_cmpR op_gt (pe_callB call_len_str (by rfl) T.g_len PySem.boot_len (pa_cons (pv 0) pa_nil)) (pe_glob (v := .int 40) (by rfl) gmf ⟨_, rfl⟩) (nomark _))))) (pss_one (ps_ret pe_bl)) pss_nil)
    (pss_cons (ps_if (PW.pt (pw_and (pt_cmpR op_gt (pe_callB call_len_str (by rfl) T.g_len PySem.boot_len (pa_cons (pv 0) pa_nil)) pe_int (nomark _)) (pw_and1 (pt_val (pe_bm PySem.F.plainAttrs_str PySem.F.slot_str_startswith PySem.F.type_str_startswith mt_starts (pv 0) (pa_cons pe_str pa_nil)))))) (pss_one (ps_ret pe_bl)) pss_nil)
    (pss_one (ps_ret (pe_callB (call_allB hr.hd) (by rfl) gall PyProof.Rows.Boot.«all» (pa_cons (pe_comp bs_f_is_number_0 rfl (pi_str (pv 0)) (fun _ _ _ _ => pifs_nil) (fun _ _ _ _ => (pe_cmpR op_in_str (pv 0) (pe_glob (v := .str "0123456789") (by rfl) gfg ⟨_, rfl⟩) rfl))) pa_nil)))))), ?_⟩
  obtain ⟨asc, len, _⟩ := numOk_a hz
  have hsl : z.length ≤ sizeLine := Nat.le_trans len (by decide)
  have q' := fun b (e : isNumB z = b) => (e ▸ q : ∀ H', Same H H' → Q (.bl b) H')
  refine ⟨_, rfl, _, rfl, hsl, _, _, rfl, rfl, _, rfl, ite2 (fun h => ?_) fun h => ?_⟩
  · have h : (z.length : Int) < 1 := of_decide_eq_true h
    exact iteT (q' false (if_pos (by omega)) H (Same.refl H))
  have h1 : ¬ z.length < 1 := fun e => h (decide_eq_true (show (z.length : Int) < 1 by omega))
  refine ⟨_, rfl, _, rfl, hsl, _, _, rfl, rfl, _, rfl, ite2 (fun h => ?_) fun h => ?_⟩
  · have h : (40 : Int) < z.length := of_decide_eq_true h
    exact q' false ((if_neg h1).trans (if_pos (by omega))) H (Same.refl H)
  have h2 : ¬ 40 < z.length := fun e => h (decide_eq_true (show (40 : Int) < z.length by omega))
  refine ⟨_, rfl, _, rfl, hsl, _, _, rfl, rfl, _, rfl, ite2 (fun h3 => ⟨_, rfl, rfl, _, _, rfl, rfl, _, rfl, ite2 (fun h4 => ?_) fun h4 => ?_⟩) fun h3 => ?_⟩
  · have h3 : (1 : Int) < z.length := of_decide_eq_true h3
    exact q' false (((if_neg h1).trans (if_neg h2)).trans (if_pos ⟨by omega, h4⟩)) H (Same.refl H)
  all_goals
    have h5 : ¬ (1 < z.length ∧ startsB z "0" = true) := fun e => by
      first
      | exact h4 e.2
      | exact h3 (decide_eq_true (show (1 : Int) < z.length by omega))
    have ev : isNumB z = (z.cps.toList.map figB).all id := ((if_neg h1).trans (if_neg h2)).trans (if_neg h5)
    refine ⟨_, rfl, _, rfl, asc, ?_⟩
    refine comp_str (fun i ys H' => H' = H ∧ ys = ((z.cps.toList.take i).map figB).map V.bl) ⟨rfl, rfl⟩ ?_ hsl ?_ ?_
    · rintro i ys H' ⟨_, rfl⟩
      rw [List.length_map, List.length_map, List.length_take]; omega
    · rintro i c ys H' hc ⟨rfl, rfl⟩
      dsimp only [tNoIf]
      refine iteT ⟨_, rfl, _, _, rfl, rfl, rfl, ?_⟩
      have hc2 : z.cps.toList[i]? = some c := by rw [Array.getElem?_toList]; exact hc
      rw [List.take_add_one, hc2, Option.toList_some, List.map_append, List.map_append]
      rfl
    · rintro ys H' ⟨rfl, rfl⟩ l hl2
      rw [show z.cps.toList.take z.cps.size = z.cps.toList by rw [← Array.length_toList]; exact List.take_length]
      refine ⟨l, _, rfl, upd_same, ?_⟩
      rw [← ev]
      exact q _ (Same.new hl2)
def spNumberE (X : Addr) : Sp := fun vs H Q E => ∃ z : Str, vs = [.str z] ∧ numOk z = true ∧ (∀ n, numOf z = some n → ∀ H', Same H H' → Q (.int n) H') ∧ (numOf z = none → ∀ H', Same H H' → E (.ref X) none H')
theorem ok_f_number_in_e {f : Addr} (F : Fun K "number_in" "number_in" s_f_number_in f fd) (T : TX K mg C) {C_7 : Addr} (gx_7 : mg "NoNote" = some (.ref C_7)) (xc_7 : Exc K C_7) (D_is_number : DefOk P w K mg base n "is_number" ["word"] (spIsNumB) [[]]) :
    FnOk P w K mg base (CXF P w) (n + 1) f fd ["word"] (spNumberE C_7) := by
  refine F.okX sc_f_number_in (by rintro _ _ _ _ ⟨_, rfl, _⟩; rfl) fun _ _ _ s H vs Q E hr h => ?_
  obtain ⟨z, rfl, hz, q, k⟩ := h
  have hu := hu_of hr
  refine ⟨_, (pss_cons (ps_if (pt_not (pt_val (qc D_is_number hr (pa_cons (pv 0) pa_nil)))) (pss_one (ps_raise throws_cx rfl (by rfl) gx_7 xc_7 (pa_cons (pe_fstr (pj_str (pj_rep (pv 0) pj_nil))) pa_nil))) pss_nil)
    (pss_one (ps_ret (pe_callTy call_intT (by rfl) T.g_int PyProof.Rows.boot_int (pa_cons (pv 0) pa_nil))))), ?_⟩
  obtain ⟨asc, len, hint⟩ := numOk_a hz
  refine ⟨_, rfl, z, rfl, hz, fun H1 s1 => ⟨_, rfl, ?_⟩⟩
  cases e : isNumB z with
  | false =>
    refine iteT ?_
    exact ⟨by decide, _, rfl, z, rfl, asc, Nat.le_trans (show _ ≤ 3000 by show 0 + (Str.length "no number is written ") + (10 * z.length + 2) ≤ 3000; rw [show Str.length "no number is written " = 21 by decide +kernel]; omega) (by decide), Nat.le_trans (show _ ≤ 3000 by show 0 + (Str.length "no number is written ") + (10 * z.length + 2) ≤ 3000; rw [show Str.length "no number is written " = 21 by decide +kernel]; omega) (by decide), fun y => ⟨zl, k (by unfold numOf; rw [e]; rfl) _ s1⟩⟩
  | true =>
    refine iteF ?_
    obtain ⟨n', hn⟩ := hint e
    exact ⟨_, rfl, _, _, rfl, hn, by omega, q n' (by unfold numOf; rw [if_pos e]; exact hn) _ s1⟩
def spBelowE (X : Addr) : Sp := fun vs H Q E => ∃ z : Str, vs = [.str z] ∧ numOk z = true ∧ (∀ n, numOf z = some n → n ≠ 0 → ∀ H', Same H H' → Q (.int (-n)) H') ∧ ((numOf z = none ∨ numOf z = some 0) → ∀ H', Same H H' → E (.ref X) none H')
theorem ok_f_number_below_nought_e {f : Addr} (F : Fun K "number_below_nought" "number_below_nought" s_f_number_below_nought f fd) (T : TX K mg C) {C_7 : Addr} (gx_7 : mg "NoNote" = some (.ref C_7)) (xc_7 : Exc K C_7) (DX_number_in : DefX P w K mg base n "number_in" ["word"] (spNumberE C_7) [[]]) :
    FnOk P w K mg base (CXF P w) (n + 1) f fd ["word"] (spBelowE C_7) := by
  refine F.okX sc_f_number_below_nought (by rintro _ _ _ _ ⟨_, rfl, _⟩; rfl) fun _ _ _ s H vs Q E hr h => ?_
  obtain ⟨z, rfl, hz, q, k⟩ := h
  have hu := hu_of hr
  refine ⟨_, (pss_cons (ps_set (i := 1) sc_f_number_below_nought.nd rfl (Or.inl rfl) (qcx DX_number_in throws_cx hr (pa_cons (pv 0) pa_nil)))
    (pss_cons (ps_if (pt_cmpR op_eq (pv 1) pe_int (nomark _)) (pss_one (ps_raise throws_cx rfl (by rfl) gx_7 xc_7 (pa_cons pe_str pa_nil))) pss_nil)
    (pss_one (ps_ret (pe_un un_neg (pv 1)))))), ?_⟩
  refine ⟨_, rfl, z, rfl, hz, fun n' hn H1 s1 => ?_, fun hn => k (.inl hn)⟩
  refine ⟨_, rfl, rfl, _, rfl, ite2 (fun h => ?_) fun h => ?_⟩
  · have h : n' = 0 := V.int.inj (of_decide_eq_true h)
    subst h
    exact ⟨zl, k (.inr hn) _ s1⟩
  · exact ⟨_, rfl, _, rfl, q n' hn (fun e => h (decide_eq_true (by rw [e]))) _ s1⟩
def spPlaceE (X : Addr) : Sp := fun vs H Q E => ∃ (z : Str) (count : Int), vs = [.str z, .int count] ∧ numOk z = true ∧ (∀ n, numOf z = some n → n < count → ∀ H', Same H H' → Q (.int n) H') ∧ ((numOf z = none ∨ ∃ n, numOf z = some n ∧ count ≤ n) → ∀ H', Same H H' → E (.ref X) none H')
theorem ok_f_place_in_e {f : Addr} (F : Fun K "place_in" "place_in" s_f_place_in f fd) (T : TX K mg C) {C_7 : Addr} (gx_7 : mg "NoNote" = some (.ref C_7)) (xc_7 : Exc K C_7) (DX_number_in : DefX P w K mg base n "number_in" ["word"] (spNumberE C_7) [[]]) :
    FnOk P w K mg base (CXF P w) (n + 1) f fd ["word", "count"] (spPlaceE C_7) := by
  refine F.okX sc_f_place_in (by rintro _ _ _ _ ⟨_, _, rfl, _⟩; rfl) fun _ _ _ s H vs Q E hr h => ?_
  obtain ⟨z, count, rfl, hz, q, k⟩ := h
  have hu := hu_of hr
  refine ⟨_, (pss_cons (ps_set (i := 2) sc_f_place_in.nd rfl (Or.inl rfl) (qcx DX_number_in throws_cx hr (pa_cons (pv 0) pa_nil)))
    (pss_cons (ps_if (pt_cmpR op_ge (pv 2) (pv 1) (nomark _)) (pss_one (ps_raise throws_cx rfl (by rfl) gx_7 xc_7 (pa_cons (pe_fstr (pj_str (pj_int (pv 2) pj_nil))) pa_nil))) pss_nil)
    (pss_one (ps_ret (pv 2))))), ?_⟩
  refine ⟨_, rfl, z, rfl, hz, fun n' hn H1 s1 => ?_, fun hn => k (.inl hn)⟩
  refine ⟨_, rfl, _, rfl, _, _, rfl, rfl, _, rfl, ite2 (fun h => ?_) fun h => ?_⟩
  · exact ⟨by decide, by decide, _, rfl, n', rfl, num_log hz hn, by decide, fun y => ⟨zl, k (.inr ⟨n', hn, of_decide_eq_true h⟩) _ s1⟩⟩
  · exact ⟨_, rfl, q n' hn (Int.not_le.mp fun e => h (decide_eq_true e)) _ s1⟩
def spThingE (X : Addr) : Sp := fun vs H Q E => ∃ (z : Str) (count : Int), vs = [.str z, .int count] ∧ wordOk z = true ∧ (∀ t, thingOf count z = some t → ∀ v H', Same H H' → isT H' t v → Q v H') ∧ (thingOf count z = none → ∀ H', Same H H' → E (.ref X) none H')
theorem ok_f_thing_in_e {f : Addr} (F : Fun K "thing_in" "thing_in" s_f_thing_in f fd) (T : TX K mg C) {C_7 : Addr} (D_box_thing : DefOk P w K mg base n "box_thing" ["name"] (spBoxThing) [[]])
    (DX_place_in : DefX P w K mg base n "place_in" ["word", "count"] (spPlaceE C_7) [[]])
    (DX_number_below_nought : DefX P w K mg base n "number_below_nought" ["word"] (spBelowE C_7) [[]])
    (DX_number_in : DefX P w K mg base n "number_in" ["word"] (spNumberE C_7) [[]]) :
    FnOk P w K mg base (CXF P w) (n + 1) f fd ["word", "count"] (spThingE C_7) := by
  refine F.okX sc_f_thing_in (by rintro _ _ _ _ ⟨_, _, rfl, _⟩; rfl) fun _ _ _ s H vs Q E hr h => ?_
  obtain ⟨z, count, rfl, hz, q, k⟩ := h
  have hu := hu_of hr
  refine ⟨_, (pss_cons (ps_if (pt_cmpR op_eq (pv 0) pe_str (nomark _)) (pss_one (ps_ret pe_non)) pss_nil)
    (pss_cons (ps_if (pt_val (pe_bm PySem.F.plainAttrs_str PySem.F.slot_str_startswith PySem.F.type_str_startswith mt_starts (pv 0) (pa_cons pe_str pa_nil))) (pss_one (ps_ret (qc D_box_thing hr (pa_cons (qcx DX_place_in throws_cx hr (pa_cons (pe_slice sl_str (pv 0) (po_some pe_int) po_none) (pa_cons (pv 1) pa_nil))) pa_nil)))) pss_nil)
    (pss_cons (ps_if (pt_val (pe_bm PySem.F.plainAttrs_str PySem.F.slot_str_startswith PySem.F.type_str_startswith mt_starts (pv 0) (pa_cons pe_str pa_nil))) (pss_one (ps_ret (qcx DX_number_below_nought throws_cx hr (pa_cons (pe_slice sl_str (pv 0) (po_some pe_int) po_none) pa_nil)))) pss_nil)
    (pss_one (ps_ret (qcx DX_number_in throws_cx hr (pa_cons (pv 0) pa_nil))))))), ?_⟩
  obtain ⟨hz1, hz2⟩ : numOk z = true ∧ numOk (tailS z) = true := by unfold wordOk at hz; exact Bool.and_eq_true_iff.mp hz
  have hlen : z.length ≤ sizeLine := Nat.le_trans (numOk_a hz1).2.1 (by decide)
  refine ⟨_, rfl, rfl, _, rfl, ite2 (fun h => ?_) fun h => ?_⟩
  · have h : z = "-" := V.str.inj (of_decide_eq_true h)
    exact q .non (if_pos h) .non H (Same.refl H) rfl
  have n1 : z ≠ "-" := fun e => h (decide_eq_true (by rw [e]))
  refine ⟨_, rfl, rfl, _, _, rfl, rfl, _, rfl, ite2 (fun h => ?_) fun h => ?_⟩
  · have h : startsB z "#" = true := h
    have ev : thingOf count z = (match numOf (tailS z) with | none => none | some n => if count ≤ n then none else some (.box n)) := (if_neg n1).trans (if_pos h)
    refine ⟨_, rfl, _, rfl, _, _, rfl, rfl, rfl, hlen, _, rfl, tailS z, count, rfl, hz2, fun n' hn hc H1 s1 => ⟨_, rfl, fun a ha => ?_⟩, fun hn H1 s1 => k ?_ _ s1⟩
    · refine q (.box n') ?_ _ _ (s1.trans (Same.new ha)) ⟨a, rfl, upd_same⟩
      rw [ev, hn]
      exact if_neg (by omega)
    · rw [ev]
      rcases hn with hn | ⟨n', hn, hc⟩
      · rw [hn]
      · rw [hn]; exact if_pos hc
  have n2 : ¬ startsB z "#" = true := h
  refine ⟨_, rfl, rfl, _, _, rfl, rfl, _, rfl, ite2 (fun h => ?_) fun h => ?_⟩
  · have h : startsB z "-" = true := h
    have ev : thingOf count z = (match numOf (tailS z) with | none => none | some n => if n = 0 then none else some (.num (-n))) := ((if_neg n1).trans (if_neg n2)).trans (if_pos h)
    refine ⟨_, rfl, _, rfl, _, _, rfl, rfl, rfl, hlen, tailS z, rfl, hz2, fun n' hn h0 H1 s1 => ?_, fun hn H1 s1 => k ?_ _ s1⟩
    · refine q (.num (-n')) ?_ _ _ s1 rfl
      rw [ev, hn]
      exact if_neg h0
    · rw [ev]
      rcases hn with hn | hn
      · rw [hn]
      · rw [hn]; exact if_pos rfl
  have n3 : ¬ startsB z "-" = true := h
  have ev : thingOf count z = (match numOf z with | none => none | some n => some (.num n)) := ((if_neg n1).trans (if_neg n2)).trans (if_neg n3)
  refine ⟨_, rfl, z, rfl, hz1, fun n' hn H1 s1 => q (.num n') ?_ _ _ s1 rfl, fun hn H1 s1 => k ?_ _ s1⟩
  · rw [ev, hn]
  · rw [ev, hn]
def spMayB : Sp := fun vs H Q _ => ∃ (kind : Str) (n : Int), vs = [.str kind, .int n] ∧ Q (.bl (mayB kind n)) H
theorem ok_f_may_have {f : Addr} (F : Fun K "may_have" "may_have" s_f_may_have f fd) (T : TX K mg C) {tml : Tok} (gml : mg "MOST_FIELDS" = some (.int 8 tml)) {aF : Addr} (hF : mg "FIXED_SIZES" = some (.ref aF)) (KD : KDict P w K aF fixed)  :
    FnOk P w K mg base CX0 (n + 1) f fd ["kind", "size"] (spMayB) := by
  refine F.ok sc_f_may_have (by rintro _ _ _ _ ⟨_, _, rfl, _⟩; rfl) fun _ _ _ s H vs Q E hr h => ?_
  obtain ⟨kind, n', rfl, q⟩ := h
  have hu := hu_of hr
  refine ⟨_, (pss_cons (ps_if (pt_cmpR op_eq (pv 0) pe_str (nomark _)) (pss_one (ps_ret (pe_cmpR op_le (pv 1) (pe_glob (v := .int 8) (by rfl) gml ⟨_, rfl⟩) (nomark _)))) pss_nil)
    (pss_one (ps_ret (pe_cmpR op_eq (pe_kget1 KD (by rfl) hF (pv 0) ⟨rfl, rfl, rfl, rfl⟩) (pv 1) (nomark _))))), ?_⟩
  refine ⟨_, rfl, rfl, _, rfl, ite2 (fun h => ?_) fun h => ?_⟩
  · have h : kind = "plain" := V.str.inj (of_decide_eq_true h)
    refine ⟨_, rfl, _, _, rfl, rfl, ?_⟩
    rw [mayB, if_pos h] at q
    exact q
  · have h : kind ≠ "plain" := fun e => h (decide_eq_true (by rw [e]))
    refine ⟨_, rfl, Sum.inr kind, rfl, _, rfl, scal_fixed kind n', ?_⟩
    rw [mayB, if_neg h] at q
    exact q
theorem words_ok {line : Str} (h : lineOk line = true) : line.cps.all (· < 128) = true ∧ line.length ≤ 400 ∧ (∀ x ∈ Txt.split line " ", wordOk x = true) ∧ (Txt.split line " ").length ≤ 400 := by
  unfold lineOk at h
  simp only [Bool.and_eq_true, decide_eq_true_eq, List.all_eq_true] at h
  exact ⟨h.1.1.1, h.1.1.2, h.1.2, h.2⟩
def spRowE (X : Addr) : Sp := fun vs H Q E => ∃ (line : Str) (count : Int), vs = [.str line, .int count] ∧ lineOk line = true ∧ (∀ r, rowOf count line = some r → ∀ a H', Same H H' → H a = none → RowB H' r a → Q (.ref a) H') ∧ (rowOf count line = none → ∀ H', Same H H' → E (.ref X) none H')
theorem bs_f_row_in_0 : BlkScope (defScope s_f_row_in) ["line", "count", "words", "kind", "things"] (compScope ((asgVal (stAt (defBody s_f_row_in) 2)))) "word" ["count"] [1] :=
  bsk
theorem ok_f_row_in_e {f : Addr} (F : Fun K "row_in" "row_in" s_f_row_in f fd) (T : TX K mg C) {C_7 : Addr} (gx_7 : mg "NoNote" = some (.ref C_7)) (xc_7 : Exc K C_7) (DX_thing_in : DefX P w K mg base n "thing_in" ["word", "count"] (spThingE C_7) [[]])
    (D_may_have : DefOk P w K mg base n "may_have" ["kind", "size"] (spMayB) [[]]) :
    FnOk P w K mg base (CXF P w) (n + 1) f fd ["line", "count"] (spRowE C_7) := by
  refine F.okX sc_f_row_in (by rintro _ _ _ _ ⟨_, _, rfl, _⟩; rfl) fun _ _ _ s H vs Q E hr h => ?_
  obtain ⟨line, count, rfl, hz, q, k⟩ := h
  have hu := hu_of hr
  refine ⟨_, (pss_cons (ps_set (i := 2) sc_f_row_in.nd rfl (Or.inl rfl) (pe_bm PySem.F.plainAttrs_str PySem.F.slot_str_split PySem.F.type_str_split mt_split (pv 0) (pa_cons pe_str pa_nil)))
    (pss_cons (ps_set (i := 3) sc_f_row_in.nd rfl (Or.inl rfl) (pe_ix ix_list (pv 2) pe_int (fun _ _ => rfl)))
    (pss_cons (ps_setCompX (i := 4) throwsF bs_f_row_in_0 rfl sc_f_row_in.nd rfl (Or.inl rfl) (pi_list (pe_slice sl_list (pv 2) (po_some pe_int) po_none)) (fun _ _ _ _ => pifs_nil) (fun _ _ _ _ => (qcb DX_thing_in hr (pa_cons (pv 0) (pa_cons (pv 1) pa_nil)))))
    (pss_cons (ps_if (pt_not (pt_val (qc D_may_have hr (pa_cons (pv 3) (pa_cons (pe_callB call_len_seq (by rfl) T.g_len PySem.boot_len (pa_cons (pv 4) pa_nil)) pa_nil))))) (pss_one (ps_raise throws_cx rfl (by rfl) gx_7 xc_7 (pa_cons (pe_fstr (pj_str (pj_rep (pv 0) pj_nil))) pa_nil))) pss_nil)
    (pss_one (ps_ret (pe_tup (pa_cons (pv 3) (pa_cons (pv 4) pa_nil))))))))), ?_⟩
  obtain ⟨asc, len, wok, few⟩ := words_ok hz
  refine ⟨_, rfl, rfl, _, _, rfl, rfl, by decide +kernel, Nat.le_trans (show line.length + 2 ≤ 402 by omega) (by decide), fun l0 hl0 => ?_⟩
  obtain ⟨kd, r, es⟩ : ∃ kd r, Txt.split line " " = kd :: r := by
    cases e : Txt.split line " " with
    | nil => exact absurd e (split_ne line 32)
    | cons a b => exact ⟨a, b, rfl⟩
  have ev : rowOf count line = (match allOf (thingOf count) r with | none => none | some ts => if mayB kd ts.length = true then some (kd, ts) else none) := by unfold rowOf; rw [es] <;> rfl
  rw [es] at wok few ⊢
  have s0 := Same.new (o := .lst ((kd :: r).map V.str)) hl0
  have h0 : (upd H l0 (.lst ((kd :: r).map V.str))) l0 = some (.lst ((kd :: r).map V.str)) := upd_same
  generalize upd H l0 (.lst ((kd :: r).map V.str)) = H0 at s0 h0 ⊢
  refine ⟨_, rfl, l0, _, 0, .str kd, rfl, rfl, SqL.of h0, atI_nat (j := 0) rfl, ?_⟩
  refine ⟨_, rfl, _, rfl, l0, _, rfl, SqL.of h0, fun l1 hl1 => ?_⟩
  rw [List.map_cons, cut_tail]
  have s1 := s0.trans (Same.new (o := .lst (r.map V.str)) hl1)
  have h1 : (upd H0 l1 (.lst (r.map V.str))) l1 = some (.lst (r.map V.str)) := upd_same
  generalize upd H0 l1 (.lst (r.map V.str)) = H1 at s1 h1 ⊢
  have rl : r.length ≤ 400 := by rw [List.length_cons] at few; omega
  refine ⟨l1, rfl, ⟨_, SqL.of h1⟩, ?_⟩
  refine comp_list (K := K) (xs := r.map V.str) (fun i ys H' => Same H1 H' ∧ ∃ ts, allOf (thingOf count) (r.take i) = some ts ∧ Ths H' ts ys ∧ ts.length ≤ i) ⟨Same.refl _, [], rfl, .nil, Nat.le_refl _⟩ ?_ (by rw [List.length_map]; exact len_small (by omega)) ?_ ?_ ?_
  · rintro i ys H' ⟨_, ts, _, ht, hl⟩
    rw [← pr_len ht]; exact hl
  · rintro i ys H' _ ⟨s, _⟩
    exact SqL.of (s _ _ h1)
  · rintro i x ys H' hx ⟨s, ts, ht0, ht, hl⟩
    have hi : i < r.length := by
      have := (List.getElem?_eq_some_iff.mp hx).1
      rw [List.length_map] at this
      exact this
    have hri := List.getElem?_eq_getElem hi
    have ex : x = V.str r[i] := by
      rw [List.getElem?_map, hri] at hx
      exact (Option.some.inj hx).symm
    subst ex
    dsimp only [tNoIf]
    have hmem : r[i] ∈ r := List.getElem_mem hi
    refine iteT ⟨_, rfl, _, rfl, r[i], count, rfl, wok _ (List.mem_cons_of_mem _ hmem), fun t ht2 v H2 s2 tv => ⟨s.trans s2, ts ++ [t], ?_, pr_app (Ths.keep (Tups.of_same s2) ht) (.cons tv .nil), by simp; omega⟩, fun hn H2 s2 => k ?_ _ ((s1.trans s).trans s2)⟩
    · rw [show r.take (i + 1) = r.take i ++ [r[i]] by rw [List.take_add_one, hri]; rfl, allOf_snoc ht0, ht2]; rfl
    · rw [ev, allOf_none hn hmem]
  · rintro ys H' ⟨s, ts, ht0, ht, _⟩ l2 hl2
    rw [List.length_map, List.take_length] at ht0
    have s2 := (s1.trans s).trans (Same.new (o := .lst ys) hl2)
    have h2 : (upd H' l2 (.lst ys)) l2 = some (.lst ys) := upd_same
    have ht2 := Ths.keep (Tups.new (o := .lst ys) hl2) ht
    generalize upd H' l2 (.lst ys) = H2 at s2 h2 ht2 ⊢
    have yl := pr_len ht
    refine ⟨_, rfl, _, rfl, l2, _, rfl, .inl (SqL.of h2), kd, _, rfl, _, rfl, ?_⟩
    cases em : mayB kd (ys.length : Int) with
    | false =>
      refine iteT ?_
      have big : 0 + Str.length "no box is written " + (10 * line.length + 2) ≤ sizeLine := Nat.le_trans (show _ ≤ 5000 by rw [show Str.length "no box is written " = 18 by decide +kernel]; omega) (by decide)
      refine ⟨by decide +kernel, _, rfl, line, rfl, asc, big, big, fun y => ⟨zl, k ?_ _ s2⟩⟩
      rw [ev, ht0]
      exact if_neg (by rw [yl, em]; intro z; cases z)
    | true =>
      refine iteF ?_
      refine ⟨_, rfl, _, rfl, zl, fun a ha => ?_⟩
      refine q (kd, ts) ?_ a _ (s2.trans (Same.new ha)) (s2.free ha) ⟨l2, ys, upd_same, kp_n h2 ha, Ths.keep (Tups.new ha) ht2⟩
      rw [ev, ht0]
      exact if_pos (by rw [yl, em])
theorem lines_ok {z : Str} (h : noteOk z = true) : z.length ≤ 2000 ∧ (∀ x ∈ Txt.split z "\n", lineOk x = true) ∧ (Txt.split z "\n").length ≤ 400 := by
  unfold noteOk at h
  simp only [Bool.and_eq_true, decide_eq_true_eq, List.all_eq_true] at h
  exact ⟨h.1.1, h.1.2, h.2⟩
def spDraftInE (X : Addr) : Sp := fun vs H Q E => ∃ z : Str, vs = [.str z] ∧ noteOk z = true ∧ (∀ rows, noteOf z = some rows → ∀ l as H', Same H H' → H l = none → H' l = some (.lst (as.map V.ref)) → Paired (RowB H') rows as → Q (.ref l) H') ∧ (noteOf z = none → ∀ H', Same H H' → E (.ref X) none H')
theorem bs_f_draft_in_0 : BlkScope (defScope s_f_draft_in) ["note", "lines"] (compScope ((retVal (stAt (defBody s_f_draft_in) 1)))) "line" ["lines"] [1] :=
  bsk
theorem ok_f_draft_in_e {f : Addr} (F : Fun K "draft_in" "draft_in" s_f_draft_in f fd) (T : TX K mg C) {C_7 : Addr} (DX_row_in : DefX P w K mg base n "row_in" ["line", "count"] (spRowE C_7) [[]]) :
    FnOk P w K mg base (CXF P w) (n + 1) f fd ["note"] (spDraftInE C_7) := by
  refine F.okX sc_f_draft_in (by rintro _ _ _ _ ⟨_, rfl, _⟩; rfl) fun _ _ _ s H vs Q E hr h => ?_
  obtain ⟨z, rfl, hz, q, k⟩ := h
  have hu := hu_of hr
  refine ⟨_, (pss_cons (ps_set (i := 1) sc_f_draft_in.nd rfl (Or.inr rfl) (pe_bm PySem.F.plainAttrs_str PySem.F.slot_str_split PySem.F.type_str_split mt_split (pv 0) (pa_cons pe_str pa_nil)))
    (pss_one (ps_ret (pe_compX throwsF bs_f_draft_in_0 rfl (pi_list (pv 1)) (fun _ _ _ _ => pifs_nil) (fun _ _ _ _ => (qcb DX_row_in hr (pa_cons (pv 0) (pa_cons (pe_callB (callk_len (K' := K) rfl) (by rfl) T.g_len PySem.boot_len (pa_cons (pv 1) pa_nil)) pa_nil)))))))), ?_⟩
  obtain ⟨len, lok, few⟩ := lines_ok hz
  refine ⟨_, rfl, rfl, _, _, rfl, rfl, by decide +kernel, Nat.le_trans (show z.length + 2 ≤ 2002 by omega) (by decide), fun l0 hl0 => ?_⟩
  have ev : noteOf z = allOf (rowOf (Txt.split z "\n").length) (Txt.split z "\n") := rfl
  generalize Txt.split z "\n" = ls at ev lok few ⊢
  have s0 := Same.new (o := .lst (ls.map V.str)) hl0
  have h0 : (upd H l0 (.lst (ls.map V.str))) l0 = some (.lst (ls.map V.str)) := upd_same
  generalize upd H l0 (.lst (ls.map V.str)) = H0 at s0 h0 ⊢
  refine ⟨_, rfl, l0, rfl, ⟨_, SqL.of h0⟩, ?_⟩
  refine comp_list (K := K) (xs := ls.map V.str) (fun i ys H' => Same H0 H' ∧ ∃ (rs : List Row) (as : List Addr), allOf (rowOf ls.length) (ls.take i) = some rs ∧ ys = as.map V.ref ∧ Paired (RowB H') rs as ∧ rs.length ≤ i) ⟨Same.refl _, [], [], rfl, rfl, .nil, Nat.le_refl _⟩ ?_ (by rw [List.length_map]; exact len_small (by omega)) ?_ ?_ ?_
  · rintro i ys H' ⟨_, rs, as, _, rfl, hp, hl⟩
    rw [List.length_map, ← pr_len hp]; exact hl
  · rintro i ys H' _ ⟨s, _⟩
    exact SqL.of (s _ _ h0)
  · rintro i x ys H' hx ⟨s, rs, as, hr0, rfl, hp, hl⟩
    have hi : i < ls.length := by
      have := (List.getElem?_eq_some_iff.mp hx).1
      rw [List.length_map] at this
      exact this
    have hri := List.getElem?_eq_getElem hi
    have ex : x = V.str ls[i] := by
      rw [List.getElem?_map, hri] at hx
      exact (Option.some.inj hx).symm
    subst ex
    dsimp only [tNoIf]
    have hmem : ls[i] ∈ ls := List.getElem_mem hi
    refine iteT ⟨_, rfl, _, rfl, l0, _, rfl, .inl (SqL.of (s _ _ h0)), ls[i], _, rfl, lok _ hmem, fun r hr2 a H2 s2 ha hb => ⟨s.trans s2, rs ++ [r], as ++ [a], ?_, by simp, pr_app (pr_imp (fun _ _ _ _ z => z.same s2) hp) (.cons hb .nil), by simp; omega⟩, fun hn H2 s2 => k ?_ _ ((s0.trans s).trans s2)⟩
    · rw [List.length_map] at hr2
      rw [show ls.take (i + 1) = ls.take i ++ [ls[i]] by rw [List.take_add_one, hri]; rfl, allOf_snoc hr0, hr2]; rfl
    · rw [List.length_map] at hn
      rw [ev, allOf_none hn hmem]
  · rintro ys H' ⟨s, rs, as, hr0, rfl, hp, _⟩ l2 hl2
    rw [List.length_map, List.take_length] at hr0
    exact q rs (ev.trans hr0) l2 as _ ((s0.trans s).trans (Same.new hl2)) ((s0.trans s).free hl2) upd_same (pr_imp (fun _ _ _ _ z => z.same (Same.new hl2)) hp)
end
section
variable {C : Addr}
def spBuildL (C : Addr) : Sp := fun vs H Q _ => ∃ (p : Addr) (A : HA) (S : HS) (rows : List Row) (slot : Nat) (ad : Addr) (as : List Addr), vs = [.ref p, .ref ad, .int slot] ∧ HouseAt C H p A S ∧ H ad = some (.lst (as.map V.ref)) ∧ Paired (RowB H) rows as ∧
  rows ≠ [] ∧ (∀ r ∈ rows, r.2.length ≤ 900 ∧ ∀ n : Int, .box n ∈ r.2 → 0 ≤ n ∧ n < rows.length) ∧ S.boxes.length + rows.length ≤ 900 ∧ (S.boxes.length : Int) + rows.length ≤ S.room ∧ slot < S.slots.length ∧ Out C H p A (S.gave rows slot) Q (.int (S.last + 1))
theorem bs_m_House_build_0_l : BlkScope (defScope s_m_House_build) ["self", "draft", "slot", "new_names", "name", "row"] (compScope ((asgVal (stAt (defBody s_m_House_build) 1)))) "place" ["self"] [0] :=
  bsk
theorem bs_m_House_build_1_l : BlkScope (defScope s_m_House_build) ["self", "draft", "slot", "new_names", "name", "row"] (compScope ((asgVal (stAt (forBody (stAt (defBody s_m_House_build) 2)) 1)))) "thing" ["new_names"] [3] :=
  bsk
theorem ok_m_House_build_l {f : Addr} (F : Fun K "build" "House.build" s_m_House_build f fd) (T : TX K mg C) (gz : mg "zip" = none) (M_has_room : MethOk P w K mg base C n "has_room" ["self", "count"] (spHasRoom C) [[]])
    (D_renamed : DefOk P w K mg base n "renamed" ["thing", "new_names"] (spRenamed) [[]])
    (D_box_thing : DefOk P w K mg base n "box_thing" ["name"] (spBoxThing) [[]]) :
    FnOk P w K mg base CX0 (n + 1) f fd ["self", "draft", "slot"] (spBuildL C) := by
  refine F.ok sc_m_House_build (by rintro _ _ _ _ ⟨_, _, _, _, _, _, _, rfl, _⟩; rfl) fun _ _ _ s H vs Q E hr h => ?_
  obtain ⟨p, A', S, rows, slot, ad, as, rfl, hh, had, hrows, hne, hrok, hfew, hroom, hs, k⟩ := h
  have hu := hu_of hr
  refine ⟨_, (pss_cons (ps_if (pt_not (pt_val (qm M_has_room (pv 0) T.cl hr (pa_cons (pe_callB call_len_seq (by rfl) T.g_len PySem.boot_len (pa_cons (pv 1) pa_nil)) pa_nil)))) pss_never pss_nil)
    (pss_cons (ps_set (i := 3) sc_m_House_build.nd rfl (Or.inr rfl) (pe_comp bs_m_House_build_0_l rfl (pi_range1 (by rfl) T.g_range (pa_cons (pe_callB call_len_seq (by rfl) T.g_len PySem.boot_len (pa_cons (pv 1) pa_nil)) pa_nil)) (fun _ _ _ _ => pifs_nil) (fun _ _ _ _ => (pe_op op_add (pe_op op_add (pek_fld (K' := K) rfl (pv 1) rfl) pe_int) (pv 0)))))
    (pss_cons (ps_for PassesOwn.never rfl (pi_zip (by rfl) gz (pa_cons (pv 3) (pa_cons (pv 1) pa_nil))) (pg_pair rfl sc_m_House_build.nd (i := 4) (j := 5) rfl rfl (Or.inl rfl) (Or.inl rfl))
    (pss_cons (ps_dput hu (pe_fld (pv 0) rfl) (pv 4) (pe_ix ix_tup (pv 5) pe_int (fun _ _ => rfl)) rfl)
    (pss_one (ps_dput hu (pe_fld (pv 0) rfl) (pv 4) (pe_comp bs_m_House_build_1_l rfl (pi_list (pe_ix ix_tup (pv 5) pe_int (fun _ _ => rfl))) (fun _ _ _ _ => pifs_nil) (fun _ _ _ _ => (qc D_renamed hr (pa_cons (pv 0) (pa_cons (pv 1) pa_nil))))) rfl))))
    (pss_cons (ps_fld (pv 0) (pe_ix ix_list (pv 3) (pe_un un_neg pe_int) (fun _ _ => rfl)) rfl)
    (pss_cons (ps_asg (qc D_box_thing hr (pa_cons (pe_ix ix_list (pv 3) pe_int (fun _ _ => rfl)) pa_nil)) (pg_sub (pe_fld (pv 0) rfl) (pv 2) set_list))
    (pss_one (ps_ret (pe_ix ix_list (pv 3) pe_int (fun _ _ => rfl))))))))), ?_⟩
  have ne1 : p ≠ A'.kd := ne_of hh.ob hh.kd (by intro z; cases z)
  have ne2 : p ≠ A'.fd := ne_of hh.ob hh.fd (by intro z; cases z)
  have neL : ∀ b ∈ A'.lists, b ≠ p ∧ b ≠ A'.kd ∧ b ≠ A'.fd := fun b hb => by
    obtain ⟨vs, q⟩ := hh.isL b hb
    exact ⟨ne_of q hh.ob (by intro z; cases z), ne_of q hh.kd (by intro z; cases z), ne_of q hh.fd (by intro z; cases z)⟩
  have len : (hFlds A' S).length < 1000 := by show 7 < 1000; decide
  have alen : as.length = rows.length := (pr_len hrows).symm
  have rpos : 0 < rows.length := List.length_pos_iff.mpr hne
  have hnames := newB_names S.last rows
  have nbl := newB_len S.last rows
  have nbAt : ∀ {j : Nat} {r : Row}, rows[j]? = some r → (newB S.last rows)[j]? = some ⟨S.last + 1 + (j : Int), r.1, r.2.map (ren fun i => S.last + 1 + i)⟩ := fun h => newB_at h
  generalize enb : newB S.last rows = nb at hnames nbl nbAt
  have hgr : S.gave rows slot = { S with last := S.last + (nb.length : Int), boxes := S.boxes ++ nb, slots := S.slots.set slot (.box (S.last + 1)) } := by rw [nbl, ← enb]; rfl
  rw [hgr] at k
  -- if not self.has_room(len(draft))
  refine ⟨_, rfl, p, A'.dx, _, rfl, hh.ob, hf_none, _, rfl, ad, _, rfl, .inl (SqL.of had), p, A', S, _, rfl, hh, _, rfl, ?_⟩
  rw [decide_eq_true (by show (S.boxes.length : Int) + (((as.map V.ref).length : Nat) : Int) ≤ S.room; rw [List.length_map]; omega)]
  refine iteF ?_
  -- new_names
  refine ⟨_, rfl, ad, _, rfl, .inl (SqL.of had), ((as.map V.ref).length : Int), rfl, by omega, by rw [List.length_map]; omega, ?_⟩
  rw [show (((as.map V.ref).length : Nat) : Int).toNat = rows.length by rw [List.length_map]; omega]
  refine comp_range (lo := 0) (n := rows.length) (fun i ys H' => H' = H ∧ ys = (intsUp (S.last + 1) i).map V.int) ⟨rfl, rfl⟩ ?_ (len_small (by omega)) ?_ ?_
  · rintro i ys H' ⟨_, rfl⟩
    rw [List.length_map, intsUp_length]; exact Nat.le_refl _
  · rintro i ys H' hi ⟨rfl, rfl⟩
    dsimp only [tNoIf]
    refine iteT ⟨_, rfl, p, C, A'.dx, _, _, rfl, hh.ob, T.cl, T.n_last, hf_last, _, _, rfl, rfl, _, rfl, _, _, rfl, rfl, rfl, ?_⟩
    rw [intsUp_snoc, List.map_append]
    show _ = _ ++ [V.int (S.last + 1 + (i : Int))]
    rw [Int.zero_add]
  · rintro ys H' ⟨rfl, rfl⟩ ln hln
    have d1 : (upd H' ln (.lst ((intsUp (S.last + 1) rows.length).map V.int))) ln = some (.lst ((intsUp (S.last + 1) rows.length).map V.int)) := upd_same
    generalize eH1 : upd H' ln (.lst ((intsUp (S.last + 1) rows.length).map V.int)) = H1 at d1
    have s1 : Same H' H1 := by rw [← eH1]; exact Same.new hln
    have hh1 := hh.same s1
    have lnk : ln ≠ A'.kd := ne_of d1 hh1.kd (by intro z; cases z)
    have lnf : ln ≠ A'.fd := ne_of d1 hh1.fd (by intro z; cases z)
    have adk : ad ≠ A'.kd := ne_of had hh.kd (by intro z; cases z)
    have adf : ad ≠ A'.fd := ne_of had hh.fd (by intro z; cases z)
    have fresh : ∀ i, i ≤ rows.length → (S.last + 1 + (i : Int)) ∉ (S.boxes ++ nb.take i).map (·.name) := fun i hi m => by
      rw [List.map_append, List.map_take, hnames] at m
      rcases List.mem_append.mp m with m | m
      · obtain ⟨b, hb, e⟩ := List.mem_map.mp m
        have := hh.top b hb
        omega
      · obtain ⟨j, hj⟩ := List.getElem?_of_mem m
        have hjl := (List.getElem?_eq_some_iff.mp hj).1
        rw [List.length_take, intsUp_length] at hjl
        rw [List.getElem?_take_of_lt (by omega), intsUp_get (by omega)] at hj
        have := Option.some.inj hj
        omega
    -- the loop
    refine ⟨_, rfl, _, rfl, ln, ad, _, _, rfl, d1, s1 _ _ had, ?_⟩
    refine for_zip (xs := (intsUp (S.last + 1) rows.length).map V.int) (ys := as.map V.ref) (fun i σ H2 => ∃ v_name v_row, σ = [some (.ref p), some (.ref ad), some (.int slot), some (.ref ln), v_name, v_row] ∧ Fr2 A'.kd A'.fd H1 H2 ∧ ∃ fl2 : List Addr,
        H2 A'.kd = some (.dK (kindsD (S.boxes ++ nb.take i))) ∧ H2 A'.fd = some (.dK (fieldsD (S.boxes ++ nb.take i) (A'.fl ++ fl2))) ∧ Paired (fun b a => ThL H2 b.row a) (nb.take i) fl2 ∧ fl2.Nodup ∧ ∀ a ∈ fl2, H' a = none) (by rw [List.length_map, List.length_map, intsUp_length]; omega)
      ⟨_, _, rfl, Fr2.of_same (Same.refl _), [], by rw [List.take_zero, List.append_nil]; exact hh1.kd, by rw [List.take_zero, List.append_nil, List.append_nil]; exact hh1.fd, .nil, List.nodup_nil, by simp⟩ (fun i σ H2 _ ⟨_, _, _, a1, _⟩ => ⟨a1 _ _ d1 lnk lnf, a1 _ _ (s1 _ _ had) adk adf⟩) ?_ ?_
    · rintro i x y σ H2 pp hx hy ⟨v1, v2, rfl, f2, fl2, hk2, hf2, hp2, nd2, fr2⟩ hpp
      have hi : i < rows.length := by have := (List.getElem?_eq_some_iff.mp hx).1; rw [List.length_map, intsUp_length] at this; exact this
      rw [List.getElem?_map, intsUp_get hi] at hx
      have hx : V.int (S.last + 1 + (i : Int)) = x := Option.some.inj hx
      subst hx
      obtain ⟨r, hr1⟩ : ∃ r, rows[i]? = some r := ⟨_, List.getElem?_eq_getElem hi⟩
      obtain ⟨at_, hat_, t_, ts_, hat, htt, hts⟩ := pr_get hrows hr1
      rw [List.getElem?_map, hat_] at hy
      have hy : V.ref at_ = y := Option.some.inj hy
      subst hy
      have hrr := hrok r (List.mem_of_getElem? hr1)
      have hb := nbAt hr1
      have tk := take_sn hb
      have flen : (S.boxes ++ nb.take i).length = (A'.fl ++ fl2).length := by rw [List.length_append, List.length_append, pr_len hp2, pr_len hh.fl]
      have blen : (S.boxes ++ nb.take i).length ≤ 900 := by rw [List.length_append, List.length_take]; omega
      refine ⟨pp, _, _, rfl, upd_same, ?_⟩
      have s3 : Same H2 (upd H2 pp (.tup [V.int (S.last + 1 + (i : Int)), V.ref at_])) := Same.new hpp
      generalize upd H2 pp (.tup [V.int (S.last + 1 + (i : Int)), V.ref at_]) = H3 at s3 ⊢
      have f3 : Fr2 A'.kd A'.fd H' H3 := (Fr2.of_same s1).trans (f2.trans (Fr2.of_same s3))
      have hp3 := f3 _ _ hh.ob ne1 ne2
      have hat3 := f3 _ _ hat (ne_of hat hh.kd (by intro z; cases z)) (ne_of hat hh.fd (by intro z; cases z))
      -- self.kinds[name] = row[0]
      refine ⟨_, rfl, at_, _, 0, _, rfl, rfl, SqT.of hat3, rfl, _, rfl, p, C, A'.dx, _, _, rfl, hp3, T.cl, T.n_kinds, hf_kinds, _, rfl, A'.kd, _, rfl, DPut.k (k := Sum.inl (S.last + 1 + (i : Int))) (s3 _ _ hk2) (by rw [kindsD, List.length_map]; exact small1000 (by omega)), ?_⟩
      rw [show putK (kindsD (S.boxes ++ nb.take i)) (Sum.inl (S.last + 1 + (i : Int)) : Key) (V.str r.1) = kindsD (S.boxes ++ nb.take (i + 1)) by rw [tk, ← List.append_assoc]; exact kindsD_put (b := ⟨S.last + 1 + (i : Int), r.1, r.2.map (ren fun i => S.last + 1 + i)⟩) (fresh i (by omega))]
      have k4 : Fr2 A'.kd A'.fd H3 (upd H3 A'.kd (.dK (kindsD (S.boxes ++ nb.take (i + 1))))) := fun b o q nb _ => by rw [upd_ne nb]; exact q
      have e4 : (upd H3 A'.kd (.dK (kindsD (S.boxes ++ nb.take (i + 1))))) A'.kd = some (.dK (kindsD (S.boxes ++ nb.take (i + 1)))) := upd_same
      have g4 : (upd H3 A'.kd (.dK (kindsD (S.boxes ++ nb.take (i + 1))))) A'.fd = some (.dK (fieldsD (S.boxes ++ nb.take i) (A'.fl ++ fl2))) := by rw [upd_ne hh.kf.symm]; exact s3 _ _ hf2
      generalize upd H3 A'.kd (.dK (kindsD (S.boxes ++ nb.take (i + 1)))) = H4 at k4 e4 g4 ⊢
      have f4 := f3.trans k4
      have hat4 := f4 _ _ hat (ne_of hat hh.kd (by intro z; cases z)) (ne_of hat hh.fd (by intro z; cases z))
      have htt4 := f4 _ _ htt (ne_of htt hh.kd (by intro z; cases z)) (ne_of htt hh.fd (by intro z; cases z))
      have hln4 : H4 ln = some (.lst ((intsUp (S.last + 1) rows.length).map V.int)) := k4 _ _ (s3 _ _ (f2 _ _ d1 lnk lnf)) lnk lnf
      have ht4 : Ths H4 r.2 ts_ := Ths.keep (f4.tups hh.kd hh.fd) hts
      -- self.fields[name] = [renamed(thing, new_names) for thing in row[1]]
      refine ⟨_, rfl, at_, _, 1, _, rfl, rfl, SqT.of hat4, rfl, t_, rfl, ⟨_, SqL.of htt4⟩, ?_⟩
      refine comp_list (K := K) (xs := ts_) (fun j ys H5 => Same H4 H5 ∧ Ths H5 ((r.2.take j).map (ren fun i => S.last + 1 + i)) ys) ⟨Same.refl _, .nil⟩ ?_ (len_small (by rw [← pr_len hts]; omega)) ?_ ?_ ?_
      · rintro j ys H5 ⟨_, h⟩
        rw [← pr_len h, List.length_map, List.length_take]; omega
      · rintro j ys H5 _ ⟨s, _⟩
        exact SqL.of (s _ _ htt4)
      · rintro j x ys H5 hx ⟨s5, h5⟩
        obtain ⟨t, ht, tv⟩ := pr_getR ht4 hx
        have tv5 := tv.keep (Tups.of_same s5)
        dsimp only [tNoIf]
        rw [take_sn ht, List.map_append]
        refine iteT ⟨_, rfl, _, rfl, x, t, ln, _, rfl, tv5, s5 _ _ hln4, ?_⟩
        cases t with
        | non => exact ⟨s5, pr_app h5 (.cons tv5 .nil)⟩
        | num z => exact ⟨s5, pr_app h5 (.cons tv5 .nil)⟩
        | box n =>
          have hn := hrr.2 n (List.mem_of_getElem? ht)
          obtain ⟨m, rfl⟩ : ∃ m : Nat, n = (m : Int) := ⟨n.toNat, by omega⟩
          refine ⟨m, _, rfl, intsUp_get (by omega), fun c hc => ⟨s5.trans (Same.new hc), pr_app (Ths.keep (Tups.new hc) h5) (.cons ⟨c, rfl, upd_same⟩ .nil)⟩⟩
      · rintro ys H5 ⟨s5, h5⟩ l hl
        rw [← pr_len hts, List.take_length] at h5
        have hp4 := f4 _ _ hh.ob ne1 ne2
        have l4 : H4 l = none := s5.free hl
        have nf : ∀ b : Addr, H4 b = none → H' b = none := fun b hb => by
          cases e : H' b with
          | none => rfl
          | some o =>
            by_cases e1 : b = A'.kd
            · subst e1; rw [e4] at hb; cases hb
            by_cases e2 : b = A'.fd
            · subst e2; rw [g4] at hb; cases hb
            rw [f4 b o e e1 e2] at hb; cases hb
        have lf : l ≠ A'.fd := (ne_of_none g4 l4).symm
        have s6 : Same H4 (upd H5 l (.lst ys)) := s5.trans (Same.new hl)
        have e6 : (upd H5 l (.lst ys)) l = some (.lst ys) := upd_same
        have h6 : Ths (upd H5 l (.lst ys)) (r.2.map (ren fun i => S.last + 1 + i)) ys := Ths.keep (Tups.new hl) h5
        generalize upd H5 l (.lst ys) = H6 at s6 e6 h6 ⊢
        refine ⟨_, rfl, p, C, A'.dx, _, _, rfl, s6 _ _ hp4, T.cl, T.n_fields, hf_fields, _, rfl, A'.fd, _, rfl, DPut.k (kvs := fieldsD (S.boxes ++ nb.take i) (A'.fl ++ fl2)) (k := Sum.inl (S.last + 1 + (i : Int))) (s6 _ _ g4) (by rw [fieldsD, List.length_map, List.length_zip]; exact small1000 (by omega)), ?_⟩
        rw [show putK (fieldsD (S.boxes ++ nb.take i) (A'.fl ++ fl2)) (Sum.inl (S.last + 1 + (i : Int)) : Key) (V.ref l) = fieldsD (S.boxes ++ nb.take (i + 1)) (A'.fl ++ (fl2 ++ [l])) by rw [tk, ← List.append_assoc, ← List.append_assoc]; exact fieldsD_put (b := ⟨S.last + 1 + (i : Int), r.1, r.2.map (ren fun i => S.last + 1 + i)⟩) flen (fresh i (by omega))]
        have k7 : Fr2 A'.kd A'.fd H6 (upd H6 A'.fd (.dK (fieldsD (S.boxes ++ nb.take (i + 1)) (A'.fl ++ (fl2 ++ [l]))))) := fun b o q _ nb => by rw [upd_ne nb]; exact q
        have step : Fr2 A'.kd A'.fd H2 (upd H6 A'.fd (.dK (fieldsD (S.boxes ++ nb.take (i + 1)) (A'.fl ++ (fl2 ++ [l]))))) := ((Fr2.of_same s3).trans k4).trans ((Fr2.of_same s6).trans k7)
        have lout : l ∉ fl2 := fun m => by
          obtain ⟨b, hb, vs', hv', _⟩ := pr_getMemR hp2 m
          have := ((Fr2.of_same s3).trans k4) _ _ hv' (ne_of hv' hk2 (by intro z; cases z)) (ne_of hv' hf2 (by intro z; cases z))
          rw [this] at l4; cases l4
        have e7 : (upd H6 A'.fd (.dK (fieldsD (S.boxes ++ nb.take (i + 1)) (A'.fl ++ (fl2 ++ [l]))))) A'.fd = some (.dK (fieldsD (S.boxes ++ nb.take (i + 1)) (A'.fl ++ (fl2 ++ [l])))) := upd_same
        have g7 : (upd H6 A'.fd (.dK (fieldsD (S.boxes ++ nb.take (i + 1)) (A'.fl ++ (fl2 ++ [l]))))) A'.kd = some (.dK (kindsD (S.boxes ++ nb.take (i + 1)))) := by rw [upd_ne hh.kf]; exact s6 _ _ e4
        have l7 : (upd H6 A'.fd (.dK (fieldsD (S.boxes ++ nb.take (i + 1)) (A'.fl ++ (fl2 ++ [l]))))) l = some (.lst ys) := by rw [upd_ne lf]; exact e6
        have h7 := Ths.keep (k7.tups (s6 _ _ e4) (s6 _ _ g4)) h6
        generalize upd H6 A'.fd (.dK (fieldsD (S.boxes ++ nb.take (i + 1)) (A'.fl ++ (fl2 ++ [l])))) = H7 at e7 g7 l7 h7 step ⊢
        refine ⟨_, _, rfl, f2.trans step, fl2 ++ [l], g7, e7, ?_, nd_snocA nd2 lout, fun a ha => ?_⟩
        · rw [tk]
          refine pr_app (pr_imp (fun b a _ ha z => ?_) hp2) (.cons ⟨ys, l7, h7⟩ .nil)
          obtain ⟨vs', hv', ht'⟩ := z
          exact ⟨vs', step _ _ hv' (ne_of hv' hk2 (by intro z; cases z)) (ne_of hv' hf2 (by intro z; cases z)), Ths.keep (step.tups hk2 hf2) ht'⟩
        · rcases List.mem_append.mp ha with z | z
          · exact fr2 a z
          · rw [List.mem_singleton.mp z]; exact nf l l4
    · rintro σ H2 ⟨v1, v2, rfl, f2, fl2, hk2, hf2, hp2, nd2, fr2⟩
      rw [List.length_map, intsUp_length] at hk2 hf2 hp2
      rw [List.take_of_length_le (by omega)] at hk2 hf2 hp2
      have f2' : Fr2 A'.kd A'.fd H' H2 := (Fr2.of_same s1).trans f2
      have b1 := f2' _ _ hh.ob ne1 ne2
      have a1 : H2 ln = some (.lst ((intsUp (S.last + 1) rows.length).map V.int)) := f2 _ _ d1 lnk lnf
      -- self.last_name = new_names[-1]
      refine ⟨_, rfl, _, rfl, ln, _, -1, .int (S.last + (nb.length : Int)), rfl, rfl, SqL.of a1, atI_end (by rw [List.length_map, intsUp_length]; omega) (by rw [List.length_map, intsUp_length, List.getElem?_map, intsUp_get (by omega)]; show some (V.int _) = _; rw [show S.last + 1 + ((rows.length - 1 : Nat) : Int) = S.last + (nb.length : Int) by omega]), _, rfl, p, C, A'.dx, _, rfl, b1, T.cl, T.n_last, len, ?_⟩
      rw [hFlds_put]
      have fl2n : ∀ a ∈ fl2, a ∉ A'.lists ∧ a ≠ p := fun a ha => by
        have z := fr2 a ha
        refine ⟨fun m => ?_, fun e => ?_⟩
        · obtain ⟨vs, q⟩ := hh.isL a m
          rw [q] at z; cases z
        · subst e; rw [hh.ob] at z; cases z
      have tu2 : Tups H' H2 := f2'.tups hh.kd hh.fd
      have tu3 : Tups H2 (upd H2 p (.ins C A'.dx (hFlds A' { S with last := S.last + (nb.length : Int) }))) := Tups.upd b1 (by intro xs z; cases z)
      have hh3 : HouseAt C (upd H2 p (.ins C A'.dx (hFlds A' { S with last := S.last + (nb.length : Int) }))) p { A' with fl := A'.fl ++ fl2 } { S with last := S.last + (nb.length : Int), boxes := S.boxes ++ nb } := by
        refine hh.grown upd_same (by rw [upd_ne ne1.symm]; exact hk2) (by rw [upd_ne ne2.symm]; exact hf2) (pr_imp (fun b a _ ha z => z.keep tu3 (upd_ne (fl2n a ha).2)) hp2) nd2 (fun a ha => (fl2n a ha).1) (fun b hb => ?_) (tu2.trans tu3) (by rw [hnames, nbl]) rfl
        obtain ⟨a1, a2, a3⟩ := neL b hb
        obtain ⟨vs, q⟩ := hh.isL b hb
        rw [upd_ne a1, f2' _ _ q a2 a3, q]
      have a3 : (upd H2 p (.ins C A'.dx (hFlds A' { S with last := S.last + (nb.length : Int) }))) ln = some (.lst ((intsUp (S.last + 1) rows.length).map V.int)) := by rw [upd_ne (ne_of a1 b1 (by intro z; cases z))]; exact a1
      have b6 : ∀ b o, H' b = some o → b ≠ p → b ≠ A'.kd → b ≠ A'.fd → (upd H2 p (.ins C A'.dx (hFlds A' { S with last := S.last + (nb.length : Int) }))) b = some o := fun b o q n0 n1 n2 => by rw [upd_ne n0]; exact f2' b o q n1 n2
      generalize upd H2 p (.ins C A'.dx (hFlds A' { S with last := S.last + (nb.length : Int) })) = H3 at hh3 a3 b6 ⊢
      have n0 : ((intsUp (S.last + 1) rows.length).map V.int)[0]? = some (V.int (S.last + 1)) := by
        rw [List.getElem?_map, intsUp_get rpos]
        show some (V.int (S.last + 1 + ((0 : Nat) : Int))) = _
        rw [show S.last + 1 + ((0 : Nat) : Int) = S.last + 1 by omega]
      -- self.slots[slot] = box_thing(new_names[0])
      refine ⟨_, rfl, ln, _, 0, _, rfl, rfl, SqL.of a3, atI_nat (j := 0) n0, S.last + 1, rfl, fun a ha => ?_⟩
      have hh4 := hh3.new (o := .tup [.str "box", .int (S.last + 1)]) ha
      obtain ⟨ws, hw, ht⟩ := hh4.sl
      have hl : ws.length = S.slots.length := (pr_len ht).symm
      refine ⟨_, rfl, p, C, A'.dx, _, _, rfl, hh4.ob, T.cl, T.n_slots, hf_slots, _, rfl, A'.sl, ws, slot, slot, rfl, rfl, hw, ixN_nat (by omega), ?_⟩
      have nls : ln ≠ A'.sl := fun e => by
        obtain ⟨vs, q⟩ := hh.isL A'.sl (by simp [HA.lists])
        rw [← e, hln] at q; cases q
      refine ⟨_, rfl, ln, _, 0, _, rfl, rfl, SqL.of (by rw [upd_ne nls]; exact kp_n a3 ha), atI_nat (j := 0) n0, ?_⟩
      have hh5 := hh4.setSlot (j := slot) (t := .box (S.last + 1)) (v := .ref a) hw ht ⟨a, rfl, upd_same⟩
      refine k { A' with fl := A'.fl ++ fl2 } _ hh5 (fun b o q nb => ?_) (fun b xs q => ?_) (fun b hb => ?_)
      · have nb : b ≠ p ∧ b ≠ A'.kd ∧ b ≠ A'.fd ∧ b ≠ A'.sl := by simp [HA.foot, HA.lists] at nb; exact ⟨nb.1, nb.2.1, nb.2.2.1, nb.2.2.2.1⟩
        rw [upd_ne nb.2.2.2]
        exact kp_n (b6 b o q nb.1 nb.2.1 nb.2.2.1) ha
      · have q3 := b6 b _ q (ne_of q hh.ob (by intro z; cases z)) (ne_of q hh.kd (by intro z; cases z)) (ne_of q hh.fd (by intro z; cases z))
        have q4 := kp_n (o := .tup [.str "box", .int (S.last + 1)]) q3 ha
        rw [upd_ne (ne_of q4 hw (by intro z; cases z))]
        exact q4
      · have hb : b ∈ fl2 ∨ b ∈ A'.foot p := by
          simp only [HA.foot, HA.lists, List.mem_cons, List.mem_append] at hb ⊢
          rcases hb with h | h | h | h | h | h | (h | h) | h | h <;> simp [h]
        rcases hb with e | e
        · right; exact fr2 b e
        · exact .inl e
end
end LW


/-! TEXTS again: x * n, z[:i]; None in a list -/
namespace L2
open PySem PySem.Spec PyProof.Rows PySem.W
def mulS (z : Str) (n : Int) : Str := ⟨(List.replicate n.toNat z.cps).foldl (· ++ ·) #[]⟩
def mulOk (z : Str) (n : Int) : Bool := decide (2 ≤ n) && decide (n ≤ 1000) && decide (1 ≤ z.length) && decide ((z.length : Int) ≤ (2 ^ 63 - 1) / n) && !Builtin.Str.tooLong (z.length * n.toNat) && decide ((mulS z n).length ≤ sizeLine)
section
variable {X : Cx}
theorem op_mul_str : OpR X (binaryOp .Mult) (fun x y H Q => ∃ (z : Str) (n : Int), x = .str z ∧ y = .int n ∧ mulOk z n = true ∧ Q (.str (mulS z n)) H) := by
  intro pins s σ H x y v u Q I rx ry h
  obtain ⟨z, n, rfl, rfl, ok, q⟩ := h
  obtain ⟨t, rfl⟩ := rx
  obtain ⟨t', rfl⟩ := ry
  unfold mulOk at ok
  simp only [Bool.and_eq_true, decide_eq_true_eq, Bool.not_eq_true'] at ok
  obtain ⟨⟨⟨⟨⟨h2, h3⟩, h1⟩, hb⟩, hl⟩, hz⟩ := ok
  have e1 : (n == 1 || z.length == 0) = false := by
    rw [Bool.or_eq_false_iff]
    exact ⟨beq_false_of_ne (by omega), beq_false_of_ne (by omega)⟩
  refine P.mul_str (by rw [decide_eq_false (by omega), decide_eq_false (by omega)]; rfl) (fun _ _ z => by omega) (fun _ _ => hl) ?_
  rw [if_neg (by omega), if_neg (by rw [e1]; intro z; cases z)]
  exact ⟨hz, ⟨.str _, H, I.tok _, ⟨_, rfl⟩, q⟩⟩
/-- z[:i] -/
theorem sl_strU : SlR X (fun x lo hi H Q => ∃ (z : Str) (i : Int), x = .str z ∧ lo = none ∧ hi = some i ∧ z.length ≤ sizeLine ∧ Q (.str (Txt.slice z none (some i))) H) := by
  intro pins s σ H x v vl vu lo hi sl Q I rx hs pl pu h
  obtain ⟨z, i, rfl, rfl, rfl, hz, q⟩ := h
  obtain ⟨t, rfl⟩ := rx
  cases pu with
  | int _ ti =>
    cases pl
    refine ⟨"str", _, F.slot_str_getitem.lookup, typeIs_str _ _ _, ?_⟩
    exact wpAny_getItem_str_slice (l := none) (u := some (i, ti)) (st := none) hs rfl (post_val_or_str ⟨Nat.le_trans (Txt.slice_le z _ _) hz, fun t' k => ⟨.str _, H, I.tok _, ⟨_, rfl⟩, q⟩⟩)
/-- is it None? -/
def nonV : Value → Bool
  | .none => true
  | _ => false
/-- None in a list of lists and Nones -/
theorem op_inN (hu : X.A.units + 64 < cLine) : OpR X (compareOp .In) (fun x y H Q => ∃ (l : Addr) (ys : List V), x = .non ∧ y = .ref l ∧ H l = some (.lst ys) ∧ (∀ y ∈ ys, y = .non ∨ ∃ a zs, y = .ref a ∧ H a = some (.lst zs)) ∧ Q (.bl (ys.any fun y => decide (y = .non))) H) := by
  intro pins s σ H x y v u Q I rx ry h
  obtain ⟨l, ys, rfl, rfl, hl, hy, q⟩ := h
  cases rx
  cases ry
  obtain ⟨z, its, c, r, hlen, e⟩ := I.lstM hl
  have an : ∀ {ys : List V} {its : List Value}, Vals ys its → (∀ y ∈ ys, y = .non ∨ ∃ a zs, y = .ref a ∧ H a = some (.lst zs)) → its.any nonV = ys.any fun y => decide (y = .non) := fun {ys its} r => by
    induction r with
    | nil => intro _; rfl
    | @cons y v ys vs r1 _ ih =>
      intro h
      rw [List.any_cons, List.any_cons, ih fun z hz => h z (List.mem_cons_of_mem _ hz)]
      rcases h y List.mem_cons_self with rfl | ⟨a, zs, rfl, _⟩
      · cases r1; rfl
      · cases r1; rfl
  have ae : ∀ {ys : List V} {its : List Value}, Vals ys its → (∀ y ∈ ys, y = .non ∨ ∃ a zs, y = .ref a ∧ H a = some (.lst zs)) → ∀ v ∈ its, SeqAt.EqAt X.A.in1 s v .none (nonV v) := fun {ys its} r => by
    induction r with
    | nil => intro _ v hv; cases hv
    | @cons y v ys vs r1 _ ih =>
      intro h w hw
      rcases List.mem_cons.mp hw with rfl | hw
      · rcases h y List.mem_cons_self with rfl | ⟨a, zs, rfl, ha⟩
        · cases r1; exact SeqAt.EqAt.same _
        · cases r1
          obtain ⟨_, it2, c2, _, _, e2⟩ := I.lstM ha
          exact SeqAt.EqAt.list_none (items := it2.toArray) ⟨_, e2, rfl, _, rfl⟩ (by show X.A.units + 1 < cLine; omega)
      · exact ih (fun z hz => h z (List.mem_cons_of_mem _ hz)) w hw
  refine SeqAt.in_listAt nonV ⟨_, e, rfl, _, rfl⟩ (fun w hw => ae r hy w (by simpa using hw)) ⟨.bl _, H, I, rfl, ?_⟩
  rw [show its.toArray.any nonV = its.any nonV by simp, an r hy]
  exact q
end
theorem for_str {z : Str} {g : TG} {tb : TS} {D : Ends} {σ : St} {H : Hp} (Pv : Nat → St → Hp → Prop) (h0 : Pv 0 σ H)
    (hs : ∀ (i c : Nat) (σ : St) (H : Hp), z.cps[i]? = some c → Pv i σ H → g (.str ⟨#[c]⟩) σ H fun σ2 H2 => tb { D with nx := Pv (i + 1), ct := Pv (i + 1), bk := D.nx } σ2 H2) (hd : ∀ σ H, Pv z.cps.size σ H → D.nx σ H) :
    ∃ W : Nat → Nat → St → Hp → Prop, (∃ m, W 0 m σ H) ∧ ∀ i m σ H, W i m σ H →
      ((Its z).stop i H ∧ D.nx σ H) ∨ ((Its z).go i H ∧ ∃ N : St → Hp → Prop, (∀ σ' H', N σ' H' → ∃ m', m' < m ∧ W (i + 1) m' σ' H') ∧ ∀ x H', (Its z).yld i H x H' → g x σ H' fun σ2 H2 => tb { D with nx := N, ct := N, bk := D.nx } σ2 H2) := by
  refine ⟨fun i m σ H => m = z.cps.size - i ∧ i ≤ z.cps.size ∧ Pv i σ H, ⟨_, rfl, Nat.zero_le _, h0⟩, ?_⟩
  rintro i m σ H ⟨rfl, hi, p⟩
  by_cases hlt : i < z.cps.size
  · refine .inr ⟨hlt, Pv (i + 1), fun σ' H' p' => ⟨_, by omega, rfl, hlt, p'⟩, fun x H' y => ?_⟩
    obtain ⟨e, c, hc, e2⟩ := y
    subst e e2
    exact hs i c σ _ hc p
  · have e : i = z.cps.size := by omega
    subst e
    exact .inl ⟨rfl, hd σ H p⟩
end L2

/-! NOTES that may be refused: what the law makes of a line -/
namespace LW
open PySem L2
def lineL : List Str := (["plain", "plain - - -", "plain 0 -1 12", "weak -", "weak #0", "pair #0 #1", "pair - 5"] : List Str) ++ (["plain #2", "plain 1 2 3 4 5 6 7 8", (Str.ofString "plain ") ++ mulS "9" 40, (Str.ofString "weak -") ++ mulS "8" 40] : List Str) ++
  (["", "plain ", " plain", "plain  1", "Plain", "weak", "weak - -", "pair 1", "pair"] : List Str) ++ (["plain 1 2 3 4 5 6 7 8 9", "plain +1", "plain 01", "plain -0", "plain #", "plain #-1"] : List Str) ++
  (["plain #01", "plain #3", "plain 1-", (Str.ofString "plain ") ++ mulS "9" 41, "plain --1", "box -"] : List Str) ++ (["plain 1_0", "weak 1\t", "pair 1 \t2", "plain 1 2 ", "weak #+0", "plain\t1", "weak - 7"] : List Str) ++ (["weak #-0", "weak #0_0", "weak #0\t", "plain -01", "weak \t1", "\t", "weak #00"] : List Str)
def firstS (z : Str) : Str := Txt.slice z none (some 1)
def figsL (z : Str) : Str := if firstS z = "-" then tailS z else z
def numL (z : Str) : Option Int :=
  if (figsL z).length < 1 then none else if 40 < (figsL z).length then none else if (figsL z).cps.toList.head? = some 48 ∧ z ≠ "0" then none
  else if (figsL z).cps.toList.all figB = true then PySem.intText? z else none
def dueL (lines ahead : Int) (z : Str) : Bool × T :=
  if z = "-" then (true, .non)
  else if firstS z = "#" then match numL (tailS z) with
    | none => (false, .box ahead)
    | some p => if 0 ≤ p ∧ p < lines then (true, .box (ahead + p)) else (false, .box ahead)
  else match numL z with
    | none => (false, .non)
    | some n => (true, .num n)
def rowL (lines ahead : Int) (z : Str) : Option (List T) := match Txt.split z " " with
  | [] => none
  | k :: r =>
    if k = "plain" ∧ 8 < r.length then none else if k = "weak" ∧ r.length ≠ 1 then none else if k = "pair" ∧ r.length ≠ 2 then none else if k ≠ "plain" ∧ k ≠ "weak" ∧ k ≠ "pair" then none
    else if (r.map fun x => (dueL lines ahead x).1).all id = true then some (r.map fun x => (dueL lines ahead x).2) else none
/-- what the law asks of a word: its numbers can be told -/
def numLOk (z : Str) : Bool := z.cps.all (· < 128) && decide (z.length ≤ 200) && ((!(figsL z).cps.toList.all figB) || decide ((figsL z).length < 1) || (PySem.intText? z).isSome) && (figsL z).cps.all (· < 128)
def lineLOk (z : Str) : Bool := decide (z.length ≤ 200) && decide ((Txt.split z " ").length ≤ 100) && (Txt.split z " ").all fun x => numLOk x && numLOk (tailS x)
/-- the law's row of a line is the program's -/
def agree (c : Int) (z : Str) : Bool := match rowOf c z with
  | none => decide (rowL c 2 z = none)
  | some r => decide (rowL c 2 z = some (r.2.map (ren fun j => 2 + j))) && decide ((Txt.split z " ").head? = some r.1) && decide (r.2.length ≤ 8) && r.2.all fun t => match t with
    | .box n => decide (0 ≤ n ∧ n < c)
    | _ => true
theorem lines_agree : (lineL.all fun z => agree 1 z && agree 2 z && agree 3 z && lineOk z && lineLOk z && decide (10 ∉ z.cps.toList) && decide (z.length ≤ 60)) = true := by decide +kernel
section
variable {C : Addr}
/-- one more part of the lines -/
theorem cat_part {H H0 : Hp} {l l2 : Addr} {xs ys : List V} {Q : VK} (s : Same H0 H) (hl : H l = some (.lst xs)) (hl2 : H l2 = none) (hn : xs.length + ys.length ≤ 1000)
    (k : ∀ l3 H3, Same H0 H3 → H3 l3 = some (.lst (xs ++ ys)) → Q (.ref l3) H3) : rCat (.ref l) (.ref l2) (upd H l2 (.lst ys)) Q :=
  ⟨l, l2, xs, ys, rfl, rfl, kp_n hl hl2, upd_same, Nat.le_trans hn (by decide), fun l3 h3 => k l3 _ ((s.trans (Same.new hl2)).trans (Same.new h3)) upd_same⟩
def spLine : Sp := fun vs H Q _ => ∃ c : Int, vs = [.int c] ∧ ∀ z H', z ∈ lineL → Same H H' → Q (.str z) H'
theorem ok_f_law_line {f : Addr} (F : Fun K "_law_line" "_law_line" s_f_law_line f fd) (T : TX K mg C)  :
    FnOk P w K mg base CX0 (n + 1) f fd ["cell"] (spLine) := by
  refine F.ok sc_f_law_line (by rintro _ _ _ _ ⟨_, rfl, _⟩; rfl) fun _ _ _ s H vs Q E hr h => ?_
  obtain ⟨c, rfl, q⟩ := h
  have hu := hu_of hr
  refine ⟨_, (@pss_cons _ _ _ _ _ (@ps_set _ _ 1 _ _ _ _ sc_f_law_line.nd rfl (Or.inl rfl) (@pe_lst _ _ _ _ (pa_cons pe_str (pa_cons pe_str (pa_cons pe_str (pa_cons pe_str (pa_cons pe_str (pa_cons pe_str (pa_cons pe_str pa_nil)))))))) rfl (Or.inl rfl))
    (@pss_cons _ _ _ _ _ (ps_set (i := 1) sc_f_law_line.nd rfl (Or.inl rfl) (pe_op op_cat (pv 1) (@pe_lst _ _ _ _ (pa_cons pe_str (pa_cons pe_str (pa_cons (pe_op op_add_str pe_str (pe_op op_mul_str pe_str pe_int)) (pa_cons (pe_op op_add_str pe_str (pe_op op_mul_str pe_str pe_int)) pa_nil)))))))
    (@pss_cons _ _ _ _ _ (ps_set (i := 1) sc_f_law_line.nd rfl (Or.inl rfl) (pe_op op_cat (pv 1) (@pe_lst _ _ _ _ (pa_cons pe_str (pa_cons pe_str (pa_cons pe_str (pa_cons pe_str (pa_cons pe_str (pa_cons pe_str (pa_cons pe_str (pa_cons pe_str (pa_cons pe_str pa_nil))))))))))))
    (@pss_cons _ _ _ _ _ (ps_set (i := 1) sc_f_law_line.nd rfl (Or.inl rfl) (pe_op op_cat (pv 1) (@pe_lst _ _ _ _ (pa_cons pe_str (pa_cons pe_str (pa_cons pe_str (pa_cons pe_str (pa_cons pe_str (pa_cons pe_str pa_nil)))))))))
    (@pss_cons _ _ _ _ _ (ps_set (i := 1) sc_f_law_line.nd rfl (Or.inl rfl) (pe_op op_cat (pv 1) (@pe_lst _ _ _ _ (pa_cons pe_str (pa_cons pe_str (pa_cons pe_str (pa_cons (pe_op op_add_str pe_str (pe_op op_mul_str pe_str pe_int)) (pa_cons pe_str (pa_cons pe_str pa_nil)))))))))
    (@pss_cons _ _ _ _ _ (ps_set (i := 1) sc_f_law_line.nd rfl (Or.inl rfl) (pe_op op_cat (pv 1) (@pe_lst _ _ _ _ (pa_cons pe_str (pa_cons pe_str (pa_cons pe_str (pa_cons pe_str (pa_cons pe_str (pa_cons pe_str (pa_cons pe_str pa_nil))))))))))
    (@pss_cons _ _ _ _ _ (ps_set (i := 1) sc_f_law_line.nd rfl (Or.inl rfl) (pe_op op_cat (pv 1) (@pe_lst _ _ _ _ (pa_cons pe_str (pa_cons pe_str (pa_cons pe_str (pa_cons pe_str (pa_cons pe_str (pa_cons pe_str (pa_cons pe_str pa_nil))))))))))
    (pss_one (ps_ret (pe_ix ix_list (pv 1) (pe_op op_mod (pv 0) pe_int) (fun _ _ => rfl))))))))))), ?_⟩
  refine ⟨zl, fun l1 h1 => ?_⟩
  have s1 : Same H (upd H l1 (.lst [V.str "plain", V.str "plain - - -", V.str "plain 0 -1 12", V.str "weak -", V.str "weak #0", V.str "pair #0 #1", V.str "pair - 5"])) := Same.new h1
  refine ⟨_, rfl, _, _, rfl, rfl, by decide +kernel, _, _, rfl, rfl, by decide +kernel, _, _, rfl, rfl, by decide +kernel, _, _, rfl, rfl, by decide +kernel, zl, fun l2 h2 => cat_part s1 upd_same h2 (by decide) fun l3 H3 s3 hl3 => ?_⟩
  refine ⟨_, rfl, zl, fun l4 h4 => cat_part s3 hl3 h4 (by decide) fun l5 H5 s5 hl5 => ?_⟩
  refine ⟨_, rfl, zl, fun l6 h6 => cat_part s5 hl5 h6 (by decide) fun l7 H7 s7 hl7 => ?_⟩
  refine ⟨_, rfl, _, _, rfl, rfl, by decide +kernel, _, _, rfl, rfl, by decide +kernel, zl, fun l8 h8 => cat_part s7 hl7 h8 (by decide) fun l9 H9 s9 hl9 => ?_⟩
  refine ⟨_, rfl, zl, fun l10 h10 => cat_part s9 hl9 h10 (by decide) fun l11 H11 s11 hl11 => ?_⟩
  refine ⟨_, rfl, zl, fun l12 h12 => cat_part s11 hl11 h12 (by decide) fun l13 H13 s13 hl13 => ?_⟩
  have c0 := Int.emod_nonneg c (show (46 : Int) ≠ 0 by decide)
  have c1 := Int.emod_lt_of_pos c (show (0 : Int) < 46 by decide)
  obtain ⟨i, hi⟩ : ∃ i : Nat, c % 46 = (i : Int) := ⟨(c % 46).toNat, by omega⟩
  have hil : i < lineL.length := by show i < 46; omega
  have hl14 : H13 l13 = some (.lst (lineL.map V.str)) := hl13
  have hz : (lineL.map V.str)[i]? = some (V.str lineL[i]) := by rw [List.getElem?_map, List.getElem?_eq_getElem hil]; rfl
  clear hl13
  refine ⟨_, rfl, _, rfl, _, _, rfl, rfl, (by show (0 : Int) < 46; decide), l13, _, _, V.str lineL[i], rfl, rfl, SqL.of hl14, ?_, q _ _ (List.getElem_mem hil) s13⟩
  rw [hi]
  exact atI_nat hz
end
section
variable {C : Addr}
def numV (z : Str) : V := match numL z with
  | none => .non
  | some n => .int n
theorem numL_ok {z : Str} (h : numLOk z = true) : z.length ≤ 200 ∧ (figsL z).length ≤ 200 ∧ ((figsL z).cps.toList.all figB = true → 1 ≤ (figsL z).length → ∃ n, PySem.intText? z = some n) ∧ (figsL z).cps.all (· < 128) = true := by
  unfold numLOk at h
  simp only [Bool.and_eq_true, decide_eq_true_eq, Bool.or_eq_true, Bool.not_eq_true'] at h
  refine ⟨h.1.1.2, ?_, fun e e1 => ?_, h.2⟩
  · unfold figsL
    split
    · exact Nat.le_trans (Txt.slice_le z _ _) h.1.1.2
    · exact h.1.1.2
  · rcases h.1.2 with (z1 | z1) | z1
    · rw [e] at z1; cases z1
    · omega
    · exact Option.isSome_iff_exists.mp z1
def spNumL : Sp := fun vs H Q _ => ∃ z : Str, vs = [.str z] ∧ numLOk z = true ∧ Q (numV z) H
theorem ok_f_law_number {f : Addr} (F : Fun K "_law_number" "_law_number" s_f_law_number f fd) (T : TX K mg C)  :
    FnOk P w K mg base CX0 (n + 1) f fd ["word"] (spNumL) := by
  refine F.ok sc_f_law_number (by rintro _ _ _ _ ⟨_, rfl, _⟩; rfl) fun _ _ _ s H vs Q E hr h => ?_
  obtain ⟨z, rfl, hz, q⟩ := h
  have hu := hu_of hr
  refine ⟨_, (pss_cons (ps_set (i := 1) sc_f_law_number.nd rfl (Or.inl rfl) (pv 0))
    (pss_cons (ps_if (pt_cmpR op_eq (pe_slice sl_strU (pv 0) po_none (po_some pe_int)) pe_str (nomark _)) (pss_one (ps_set (i := 1) sc_f_law_number.nd rfl (Or.inl rfl) (pe_slice sl_str (pv 0) (po_some pe_int) po_none))) pss_nil)
    (pss_cons (ps_if (PW.pt (pw_or (pt_cmpR op_lt (pe_callB call_len_str (by rfl) T.g_len PySem.boot_len (pa_cons (pv 1) pa_nil)) pe_int (nomark _)) (pw_or (pt_cmpR op_gt (pe_callB call_len_str (by rfl) T.g_len PySem.boot_len (pa_cons (pv 1) pa_nil)) pe_int (nomark _)) (pw_or1 (PW.pt (pw_and (pt_cmpR op_eq (pe_ix ix_str (pv 1) pe_int (fun _ _ => rfl)) pe_str (nomark _)) (pw_and1 (pt_cmpR op_ne (pv 0) pe_str (nomark _))))))))) (pss_one (ps_ret pe_non)) pss_nil)
    (pss_cons (ps_for PassesOwn.never rfl (pi_str (pv 1)) (pg_name (i := 2) sc_f_law_number.nd rfl (Or.inl rfl))
    (pss_one (ps_if (pt_cmpR op_notIn_str (pv 2) pe_str rfl) (pss_one (ps_ret pe_non)) pss_nil)))
    (pss_one (ps_ret (pe_callTy call_intT (by rfl) T.g_int PyProof.Rows.boot_int (pa_cons (pv 0) pa_nil)))))))), ?_⟩
  obtain ⟨len, lenF, hint, asc⟩ := numL_ok hz
  have q0 : numL z = none → Q .non H := fun e => by unfold numV at q; rw [e] at q; exact q
  have sz : z.length ≤ sizeLine := Nat.le_trans len (by decide)
  have szF : (figsL z).length ≤ sizeLine := Nat.le_trans lenF (by decide)
  have hN : numL z = if (figsL z).length < 1 then none else if 40 < (figsL z).length then none else if (figsL z).cps.toList.head? = some 48 ∧ z ≠ "0" then none
    else if (figsL z).cps.toList.all figB = true then PySem.intText? z else none := rfl
  refine ⟨_, rfl, _, rfl, _, rfl, _, _, rfl, rfl, rfl, sz, rfl, _, rfl, ite2 (fun h => ?_) fun h => ?_⟩
  case' refine_1 =>
    have e : figsL z = tailS z := if_pos (V.str.inj (of_decide_eq_true h))
    rw [e] at lenF hint asc szF hN
    refine ⟨_, rfl, _, rfl, _, _, rfl, rfl, rfl, sz, ?_⟩
    have fold : Txt.slice z (some 1) none = tailS z := rfl
    rw [fold]
    generalize tailS z = fg at lenF hint asc szF hN ⊢
  case' refine_2 =>
    have e : figsL z = z := if_neg fun e => h (decide_eq_true (by rw [show Txt.slice z none (some 1) = firstS z from rfl, e]))
    obtain ⟨fg, hfg⟩ : ∃ fg : Str, fg = z := ⟨z, rfl⟩
    rw [show ∀ S : St, List.set S 1 (some (V.str z)) = List.set S 1 (some (V.str fg)) from fun S => by rw [hfg]]
    rw [e.trans hfg.symm] at lenF hint asc szF hN
    clear e hfg
  all_goals
    refine ⟨_, rfl, _, rfl, szF, _, _, rfl, rfl, _, rfl, ite2 (fun h1 => ?_) fun h1 => ?_⟩
    · have h1 : (fg.length : Int) < 1 := of_decide_eq_true h1
      exact iteT (q0 (hN.trans (if_pos (by omega))))
    have g1 : ¬ fg.length < 1 := fun e => h1 (decide_eq_true (show (fg.length : Int) < 1 by omega))
    refine ⟨_, rfl, _, rfl, szF, _, _, rfl, rfl, _, rfl, ite2 (fun h2 => ?_) fun h2 => ?_⟩
    · have h2 : (40 : Int) < fg.length := of_decide_eq_true h2
      exact iteT (q0 (hN.trans ((if_neg g1).trans (if_pos (by omega)))))
    have g2 : ¬ 40 < fg.length := fun e => h2 (decide_eq_true (show (40 : Int) < fg.length by omega))
    obtain ⟨d, r, hd⟩ : ∃ d r, fg.cps.toList = d :: r := by
      cases e : fg.cps.toList with
      | nil =>
        have : fg.length = 0 := by
          show fg.cps.size = 0
          rw [← Array.length_toList, e]; rfl
        omega
      | cons d r => exact ⟨d, r, rfl⟩
    have sp : V.str ⟨#[d]⟩ = V.str "0" ↔ d = 48 := by
      constructor
      · intro e
        have e := congrArg (fun x : Str => x.cps.toList) (V.str.inj e)
        have e2 : (Str.ofString "0").cps.toList = [48] := by decide +kernel
        dsimp only at e
        rw [e2] at e
        exact (List.cons.inj e).1
      · rintro rfl
        exact congrArg V.str (str_ext (by decide +kernel))
    refine ⟨_, rfl, _, _, d, rfl, rfl, szF, by rw [hd]; exact atI_nat (j := 0) rfl, rfl, _, rfl, ite2 (fun h3 => ⟨_, rfl, rfl, _, rfl, ite2 (fun h4 => ?_) fun h4 => ?_⟩) fun h3 => ?_⟩
    · have h3 : d = 48 := sp.mp (of_decide_eq_true h3)
      refine q0 (hN.trans ((if_neg g1).trans ((if_neg g2).trans (if_pos ⟨by rw [hd, h3]; rfl, fun e => ?_⟩))))
      rw [e] at h4
      exact absurd h4 (by decide +kernel)
    all_goals
      have g3 : ¬ (fg.cps.toList.head? = some 48 ∧ z ≠ "0") := fun e => by
        rw [hd] at e
        first
        | exact h4 (by rw [decide_eq_false fun y => e.2 (V.str.inj y)]; rfl)
        | exact h3 (decide_eq_true (sp.mpr (Option.some.inj e.1)))
      have hN2 := hN.trans ((if_neg g1).trans ((if_neg g2).trans (if_neg g3)))
      refine ⟨_, rfl, _, rfl, asc, ?_⟩
      refine for_str (z := fg) (fun i σ H' => ∃ v, σ = [some (V.str z), some (V.str fg), v] ∧ H' = H ∧ (fg.cps.toList.take i).all figB = true) ⟨none, rfl, rfl, rfl⟩ ?_ ?_
      · rintro i c σ H' hc ⟨v, rfl, rfl, ha⟩
        have hc2 : fg.cps.toList[i]? = some c := by rw [Array.getElem?_toList]; exact hc
        refine ⟨_, rfl, _, _, rfl, rfl, _, rfl, ite2 (fun h => ?_) fun h => ?_⟩
        · refine q0 (hN2.trans (if_neg fun e => ?_))
          have := (List.all_eq_true.mp e) c (List.mem_of_getElem? hc2)
          have h : (!figB c) = true := h
          rw [this] at h
          cases h
        · refine ⟨_, rfl, rfl, ?_⟩
          rw [List.take_add_one, hc2, Option.toList_some, List.all_append, ha, List.all_cons, List.all_nil]
          have h : ¬ (!figB c) = true := h
          cases e : figB c with
          | true => rfl
          | false => rw [e] at h; exact absurd rfl h
      · rintro σ H' ⟨v, rfl, rfl, ha⟩
        rw [show fg.cps.toList.take fg.cps.size = fg.cps.toList by rw [← Array.length_toList]; exact List.take_length] at ha
        obtain ⟨n', hn'⟩ := hint ha (by omega)
        have hq : numV z = .int n' := by unfold numV; rw [hN2, if_pos ha, hn']
        rw [hq] at q
        exact ⟨_, rfl, _, _, rfl, hn', by omega, q⟩
end
section
variable {C : Addr}
/-- what the law makes of a word lies there -/
theorem due_none {lines ahead : Int} {z : Str} (n1 : z ≠ "-") (h : firstS z = "#") (en : numL (tailS z) = none) : dueL lines ahead z = (false, .box ahead) := by
  unfold dueL
  rw [if_neg n1, if_pos h, en]
theorem due_some {lines ahead p : Int} {z : Str} (n1 : z ≠ "-") (h : firstS z = "#") (en : numL (tailS z) = some p) : dueL lines ahead z = if 0 ≤ p ∧ p < lines then (true, .box (ahead + p)) else (false, .box ahead) := by
  unfold dueL
  rw [if_neg n1, if_pos h, en]
theorem due_num {lines ahead : Int} {z : Str} (n1 : z ≠ "-") (h : ¬ firstS z = "#") : (numL z = none → dueL lines ahead z = (false, .non)) ∧ ∀ n, numL z = some n → dueL lines ahead z = (true, .num n) := by
  unfold dueL
  rw [if_neg n1, if_neg h]
  exact ⟨fun en => by rw [en], fun n en => by rw [en]⟩
def spDueL : Sp := fun vs H Q _ => ∃ (z : Str) (lines ahead : Int), vs = [.str z, .int lines, .int ahead] ∧ numLOk z = true ∧ numLOk (tailS z) = true ∧ ∀ a v H', Same H H' → H a = none → H' a = some (.tup [.bl (dueL lines ahead z).1, v]) → isT H' (dueL lines ahead z).2 v → Q (.ref a) H'
theorem ok_f_law_due {f : Addr} (F : Fun K "_law_due" "_law_due" s_f_law_due f fd) (T : TX K mg C) (D_law_number : DefOk P w K mg base n "_law_number" ["word"] (spNumL) [[]]) :
    FnOk P w K mg base CX0 (n + 1) f fd ["word", "lines", "ahead"] (spDueL) := by
  refine F.ok sc_f_law_due (by rintro _ _ _ _ ⟨_, _, _, rfl, _⟩; rfl) fun _ _ _ s H vs Q E hr h => ?_
  obtain ⟨z, lines, ahead, rfl, hz, hz2, q⟩ := h
  have hu := hu_of hr
  refine ⟨_, (@pss_cons _ _ _ _ _ (ps_if (pt_cmpR op_eq (pv 0) pe_str (nomark _)) (pss_one (ps_ret (@pe_tup _ _ _ _ _ (pa_cons pe_bl (pa_cons pe_non pa_nil))))) pss_nil)
    (@pss_cons _ _ _ _ _ (ps_if (pt_cmpR op_eq (pe_slice sl_strU (pv 0) po_none (po_some pe_int)) pe_str (nomark _)) (pss_cons (ps_set (i := 3) sc_f_law_due.nd rfl (Or.inl rfl) (qc D_law_number hr (pa_cons (pe_slice sl_str (pv 0) (po_some pe_int) po_none) pa_nil)))
    (pss_cons (ps_set (i := 4) sc_f_law_due.nd rfl (Or.inl rfl) (pe_and (pe_cmp (pc_notN (pv 3))) (pe_one (pe_chain op_le op_lt pe_int (pv 3) (pv 1)))))
    (pss_one (ps_ret (@pe_tup _ _ _ _ _ (@pa_cons _ _ _ _ _ (pv 4) (@pa_cons _ _ _ _ _ (@pe_tup _ _ _ _ _ (@pa_cons _ _ _ _ _ pe_str (@pa_cons _ _ _ _ _ (pe_op op_add (pv 2) (pe_ix ix_list (@pe_lst _ _ _ _ (pa_cons pe_int (pa_cons (pv 3) pa_nil))) (pe_callTy call_int1 (by rfl) T.g_int PyProof.Rows.boot_int (pa_cons (pv 4) pa_nil)) (fun _ _ => rfl))) pa_nil rfl) rfl)) pa_nil rfl) rfl)))))) pss_nil)
    (pss_cons (ps_set (i := 5) sc_f_law_due.nd rfl (Or.inl rfl) (qc D_law_number hr (pa_cons (pv 0) pa_nil)))
    (pss_one (ps_ret (@pe_tup _ _ _ _ _ (pa_cons (pe_cmp (pc_notN (pv 5))) (pa_cons (pv 5) pa_nil)))))))), ?_⟩
  have sz : z.length ≤ sizeLine := Nat.le_trans (numL_ok hz).1 (by decide)
  refine ⟨_, rfl, rfl, _, rfl, ite2 (fun h => ?_) fun h => ?_⟩
  · have h : z = "-" := V.str.inj (of_decide_eq_true h)
    have ev : dueL lines ahead z = (true, .non) := if_pos h
    refine ⟨zl, fun a ha => q a .non _ (Same.new ha) ha ?_ ?_⟩
    · rw [ev]; exact upd_same
    · rw [ev]; rfl
  have n1 : z ≠ "-" := fun e => h (decide_eq_true (by rw [e]))
  refine ⟨_, rfl, _, rfl, z, 1, rfl, rfl, rfl, sz, rfl, _, rfl, ?_⟩
  refine ite2 (fun h => ?_) fun h => ?_
  · have h : firstS z = "#" := V.str.inj (of_decide_eq_true h)
    refine ⟨_, rfl, _, rfl, _, _, rfl, rfl, rfl, sz, tailS z, rfl, hz2, ?_⟩
    have box : ∀ {good : Bool} {pl : V} {t : Int} {H1 : Hp}, dueL lines ahead z = (good, .box (ahead + t)) → ([V.int 0, pl] : List V)[if good then 1 else 0]? = some (V.int t) → ∀ l, H l = none → atI [V.int 0, pl] (if good = true then 1 else 0) = some (V.int t) := fun {good pl t H1} _ h l _ => by
      cases good
      · exact atI_nat (j := 0) h
      · exact atI_nat (j := 1) h
    have ret : ∀ {t : Int} {good : Bool} {l a b : Addr} {o : HO}, dueL lines ahead z = (good, .box (ahead + t)) → H l = none → (upd H l o) a = none → (upd (upd H l o) a (.tup [.str "box", .int (ahead + t)])) b = none →
        Q (.ref b) (upd (upd (upd H l o) a (.tup [.str "box", .int (ahead + t)])) b (.tup [.bl good, .ref a])) := fun {t good l a b o} e hl ha hb =>
      q b (.ref a) _ (((Same.new hl).trans (Same.new ha)).trans (Same.new hb)) (((Same.new hl).trans (Same.new ha)).free hb) (by rw [e]; exact upd_same) (by rw [e]; exact ⟨a, rfl, kp_n upd_same hb⟩)
    unfold numV
    cases en : numL (tailS z) with
    | none =>
      have ev : dueL lines ahead z = (false, .box (ahead + 0)) := by rw [due_none n1 h en, Int.add_zero]
      refine ⟨_, rfl, _, rfl, iteF ?_⟩
      refine ⟨_, rfl, _, rfl, _, rfl, zl, fun l hl => ?_⟩
      refine ⟨_, rfl, .inr ⟨_, rfl, ?_⟩⟩
      refine ⟨l, _, _, V.int 0, rfl, rfl, SqL.of upd_same, box (H1 := H) ev rfl l hl, ?_⟩
      refine ⟨_, _, rfl, rfl, ?_⟩
      refine ⟨zl, fun a ha => ⟨zl, fun b hb => ret ev hl ha hb⟩⟩
    | some p =>
      have ev : dueL lines ahead z = if 0 ≤ p ∧ p < lines then (true, .box (ahead + p)) else (false, .box ahead) := due_some n1 h en
      refine ⟨_, rfl, _, rfl, iteT ?_⟩
      refine ⟨_, rfl, _, _, rfl, rfl, _, rfl, ?_⟩
      by_cases h0 : 0 ≤ p
      · rw [decide_eq_true h0]
        refine iteT ⟨_, rfl, _, _, rfl, rfl, ?_⟩
        by_cases h1 : p < lines
        · have ev : dueL lines ahead z = (true, .box (ahead + p)) := ev.trans (if_pos ⟨h0, h1⟩)
          dsimp only
          rw [decide_eq_true h1]
          refine ⟨_, rfl, _, rfl, _, rfl, zl, fun l hl => ?_⟩
          refine ⟨_, rfl, .inr ⟨_, rfl, ?_⟩⟩
          refine ⟨l, _, _, V.int p, rfl, rfl, SqL.of upd_same, box (H1 := H) ev rfl l hl, ?_⟩
          refine ⟨_, _, rfl, rfl, ?_⟩
          exact ⟨zl, fun a ha => ⟨zl, fun b hb => ret ev hl ha hb⟩⟩
        · have ev : dueL lines ahead z = (false, .box (ahead + 0)) := by rw [ev, if_neg (fun e => h1 e.2), Int.add_zero]
          dsimp only
          rw [decide_eq_false h1]
          refine ⟨_, rfl, _, rfl, _, rfl, zl, fun l hl => ?_⟩
          refine ⟨_, rfl, .inr ⟨_, rfl, ?_⟩⟩
          refine ⟨l, _, _, V.int 0, rfl, rfl, SqL.of upd_same, box (H1 := H) ev rfl l hl, ?_⟩
          refine ⟨_, _, rfl, rfl, ?_⟩
          exact ⟨zl, fun a ha => ⟨zl, fun b hb => ret ev hl ha hb⟩⟩
      · have ev : dueL lines ahead z = (false, .box (ahead + 0)) := by rw [ev, if_neg (fun e => h0 e.1), Int.add_zero]
        rw [decide_eq_false h0]
        refine iteF ?_
        refine ⟨_, rfl, _, rfl, _, rfl, zl, fun l hl => ?_⟩
        refine ⟨_, rfl, .inr ⟨_, rfl, ?_⟩⟩
        refine ⟨l, _, _, V.int 0, rfl, rfl, SqL.of upd_same, box (H1 := H) ev rfl l hl, ?_⟩
        refine ⟨_, _, rfl, rfl, ?_⟩
        exact ⟨zl, fun a ha => ⟨zl, fun b hb => ret ev hl ha hb⟩⟩
  have n2 : ¬ firstS z = "#" := fun e => h (decide_eq_true (by rw [show Txt.slice z none (some 1) = firstS z from rfl, e]))
  refine ⟨_, rfl, z, rfl, hz, ?_⟩
  unfold numV
  cases en : numL z with
  | none =>
    have ev := (due_num (lines := lines) (ahead := ahead) n1 n2).1 en
    exact ⟨_, rfl, _, rfl, zl, fun a ha => q a .non _ (Same.new ha) ha (by rw [ev]; exact upd_same) (by rw [ev]; rfl)⟩
  | some n' =>
    have ev := (due_num (lines := lines) (ahead := ahead) n1 n2).2 n' en
    exact ⟨_, rfl, _, rfl, zl, fun a ha => q a (.int n') _ (Same.new ha) ha (by rw [ev]; exact upd_same) (by rw [ev]; rfl)⟩
end
section
variable {C : Addr}
theorem lineL_ok {z : Str} (h : lineLOk z = true) : z.length ≤ 200 ∧ (Txt.split z " ").length ≤ 100 ∧ ∀ x ∈ Txt.split z " ", numLOk x = true ∧ numLOk (tailS x) = true := by
  unfold lineLOk at h
  simp only [Bool.and_eq_true, decide_eq_true_eq, List.all_eq_true] at h
  exact ⟨h.1.1, h.1.2, h.2⟩
/-- what the law makes of a word lies at a -/
def DueAt (lines ahead : Int) (H : Hp) (x : Str) (a : Addr) : Prop := ∃ v, H a = some (.tup [.bl (dueL lines ahead x).1, v]) ∧ isT H (dueL lines ahead x).2 v
theorem DueAt.same {lines ahead : Int} {H H' : Hp} {x : Str} {a : Addr} (s : Same H H') (h : DueAt lines ahead H x a) : DueAt lines ahead H' x a := let ⟨v, e1, e2⟩ := h; ⟨v, s _ _ e1, e2.keep (Tups.of_same s)⟩
theorem in_false : ∀ bs : List Bool, inV (.bl false) (bs.map V.bl) = !bs.all id
  | [] => rfl
  | b :: bs => by
    have ih := in_false bs
    unfold inV at ih ⊢
    rw [List.map_cons, List.any_cons, ih, List.all_cons, Bool.not_and]
    cases b <;> rfl
theorem flat_bools (bs : List Bool) : (bs.map V.bl).all flatV = true := by
  rw [List.all_eq_true]
  intro x hx
  obtain ⟨b, _, rfl⟩ := List.mem_map.mp hx
  rfl
def spRowLw : Sp := fun vs H Q _ => ∃ (z : Str) (lines ahead : Int), vs = [.str z, .int lines, .int ahead] ∧ lineLOk z = true ∧
  (rowL lines ahead z = none → ∀ H', Same H H' → Q .non H') ∧ (∀ ts, rowL lines ahead z = some ts → ∀ l vs H', Same H H' → H l = none → H' l = some (.lst vs) → Ths H' ts vs → Q (.ref l) H')
theorem bs_f_law_row_0 : BlkScope (defScope s_f_law_row) ["line", "lines", "ahead", "words", "row"] (compScope ((asgVal (stAt (defBody s_f_law_row) 1)))) "word" ["lines", "ahead"] [1, 2] :=
  bsk
theorem bs_f_law_row_1 : BlkScope (defScope s_f_law_row) ["line", "lines", "ahead", "words", "row"] (compScope ((cmpR 0 (ifTest (stAt (defBody s_f_law_row) 4))))) "place" [] [] :=
  bsk
theorem bs_f_law_row_2 : BlkScope (defScope s_f_law_row) ["line", "lines", "ahead", "words", "row"] (compScope ((retVal (stAt (defBody s_f_law_row) 5)))) "place" [] [] :=
  bsk
theorem ok_f_law_row {f : Addr} (F : Fun K "_law_row" "_law_row" s_f_law_row f fd) (T : TX K mg C) (D_law_due : DefOk P w K mg base n "_law_due" ["word", "lines", "ahead"] (spDueL) [[]]) :
    FnOk P w K mg base CX0 (n + 1) f fd ["line", "lines", "ahead"] (spRowLw) := by
  refine F.ok sc_f_law_row (by rintro _ _ _ _ ⟨_, _, _, rfl, _⟩; rfl) fun _ _ _ s H vs Q E hr h => ?_
  obtain ⟨z, lines, ahead, rfl, hz, q0, q1⟩ := h
  have hu := hu_of hr
  refine ⟨_, (pss_cons (ps_set (i := 3) sc_f_law_row.nd rfl (Or.inl rfl) (pe_bm PySem.F.plainAttrs_str PySem.F.slot_str_split PySem.F.type_str_split mt_split (pv 0) (pa_cons pe_str pa_nil)))
    (pss_cons (ps_setComp (i := 4) bs_f_law_row_0 rfl sc_f_law_row.nd rfl (Or.inl rfl) (pi_list (pe_slice sl_list (pv 3) (po_some pe_int) po_none)) (fun _ _ _ _ => pifs_nil) (fun _ _ _ _ => (qc D_law_due hr (pa_cons (pv 0) (pa_cons (pv 1) (pa_cons (pv 2) pa_nil))))))
    (pss_cons (ps_if (PW.pt (pw_or (PW.pt (pw_and (pt_cmpR op_eq (pe_ix ix_list (pv 3) pe_int (fun _ _ => rfl)) pe_str (nomark _)) (pw_and1 (pt_cmpR op_gt (pe_callB call_len_seq (by rfl) T.g_len PySem.boot_len (pa_cons (pv 4) pa_nil)) pe_int (nomark _))))) (pw_or1 (PW.pt (pw_and (pt_cmpR op_eq (pe_ix ix_list (pv 3) pe_int (fun _ _ => rfl)) pe_str (nomark _)) (pw_and1 (pt_cmpR op_ne (pe_callB call_len_seq (by rfl) T.g_len PySem.boot_len (pa_cons (pv 4) pa_nil)) pe_int (nomark _)))))))) (pss_one (ps_ret pe_non)) pss_nil)
    (@pss_cons _ _ _ _ _ (ps_if (PW.pt (pw_or (PW.pt (pw_and (pt_cmpR op_eq (pe_ix ix_list (pv 3) pe_int (fun _ _ => rfl)) pe_str (nomark _)) (pw_and1 (pt_cmpR op_ne (pe_callB call_len_seq (by rfl) T.g_len PySem.boot_len (pa_cons (pv 4) pa_nil)) pe_int (nomark _))))) (pw_or1 (pt_cmpR op_notIn_seq (pe_ix ix_list (pv 3) pe_int (fun _ _ => rfl)) (@pe_tup _ _ _ _ _ (pa_cons pe_str (pa_cons pe_str (pa_cons pe_str pa_nil)))) rfl)))) (pss_one (ps_ret pe_non)) pss_nil)
    (pss_cons (ps_if (pt_cmpR op_in_seq pe_bl (pe_comp bs_f_law_row_1 rfl (pi_list (pv 4)) (fun _ _ _ _ => pifs_nil) (fun _ _ _ _ => (pe_ix (ixk_tup (K' := K) rfl) (pv 0) pe_int (fun _ _ => rfl)))) rfl) (pss_one (ps_ret pe_non)) pss_nil)
    (pss_one (ps_ret (pe_comp bs_f_law_row_2 rfl (pi_list (pv 4)) (fun _ _ _ _ => pifs_nil) (fun _ _ _ _ => (pe_ix (ixk_tup (K' := K) rfl) (pv 0) pe_int (fun _ _ => rfl))))))))))), ?_⟩
  obtain ⟨len, few, wok⟩ := lineL_ok hz
  refine ⟨_, rfl, rfl, _, _, rfl, rfl, by decide +kernel, Nat.le_trans (show z.length + 2 ≤ 202 by omega) (by decide), fun l0 hl0 => ?_⟩
  obtain ⟨kd, r, es⟩ : ∃ kd r, Txt.split z " " = kd :: r := by
    cases e : Txt.split z " " with
    | nil => exact absurd e (split_ne z 32)
    | cons a b => exact ⟨a, b, rfl⟩
  have ev : rowL lines ahead z = (if kd = "plain" ∧ 8 < r.length then none else if kd = "weak" ∧ r.length ≠ 1 then none else if kd = "pair" ∧ r.length ≠ 2 then none else if kd ≠ "plain" ∧ kd ≠ "weak" ∧ kd ≠ "pair" then none
    else if (r.map fun x => (dueL lines ahead x).1).all id = true then some (r.map fun x => (dueL lines ahead x).2) else none) := by unfold rowL; rw [es] <;> rfl
  rw [es] at wok few ⊢
  have rl : r.length ≤ 100 := by rw [List.length_cons] at few; omega
  have s0 := Same.new (o := .lst ((kd :: r).map V.str)) hl0
  have h0 : (upd H l0 (.lst ((kd :: r).map V.str))) l0 = some (.lst ((kd :: r).map V.str)) := upd_same
  generalize upd H l0 (.lst ((kd :: r).map V.str)) = H0 at s0 h0 ⊢
  refine ⟨_, rfl, _, rfl, l0, _, rfl, SqL.of h0, fun l1 hl1 => ?_⟩
  rw [List.map_cons, cut_tail]
  have s1 := s0.trans (Same.new (o := .lst (r.map V.str)) hl1)
  have h1 : (upd H0 l1 (.lst (r.map V.str))) l1 = some (.lst (r.map V.str)) := upd_same
  have h01 : (upd H0 l1 (.lst (r.map V.str))) l0 = some (.lst ((kd :: r).map V.str)) := kp_n h0 hl1
  generalize upd H0 l1 (.lst (r.map V.str)) = H1 at s1 h1 h01 ⊢
  refine ⟨l1, rfl, ⟨_, SqL.of h1⟩, ?_⟩
  refine comp_list (K := K) (xs := r.map V.str) (fun i ys H' => Same H1 H' ∧ ∃ as : List Addr, ys = as.map V.ref ∧ Paired (DueAt lines ahead H') (r.take i) as) ⟨Same.refl _, [], rfl, .nil⟩ ?_ (by rw [List.length_map]; exact len_small (by omega)) ?_ ?_ ?_
  · rintro i ys H' ⟨_, as, rfl, hp⟩
    rw [List.length_map, ← pr_len hp, List.length_take]; omega
  · rintro i ys H' _ ⟨s, _⟩
    exact SqL.of (s _ _ h1)
  · rintro i x ys H' hx ⟨s, as, rfl, hp⟩
    have hi : i < r.length := by
      have := (List.getElem?_eq_some_iff.mp hx).1
      rw [List.length_map] at this
      exact this
    have hri := List.getElem?_eq_getElem hi
    have ex : x = V.str r[i] := by
      rw [List.getElem?_map, hri] at hx
      exact (Option.some.inj hx).symm
    subst ex
    dsimp only [tNoIf]
    have hw := wok r[i] (List.mem_cons_of_mem _ (List.getElem_mem hi))
    refine iteT ⟨_, rfl, _, rfl, _, rfl, r[i], lines, ahead, rfl, hw.1, hw.2, fun a v H2 s2 ha ha2 tv => ⟨s.trans s2, as ++ [a], by simp, ?_⟩⟩
    rw [show r.take (i + 1) = r.take i ++ [r[i]] by rw [List.take_add_one, hri]; rfl]
    exact pr_app (pr_imp (fun _ _ _ _ z => z.same s2) hp) (.cons ⟨v, ha2, tv⟩ .nil)
  · rintro ys H' ⟨s, as, rfl, hp⟩ l2 hl2
    rw [List.length_map, List.take_length] at hp
    have s2 := (s1.trans s).trans (Same.new (o := .lst (as.map V.ref)) hl2)
    have h2 : (upd H' l2 (.lst (as.map V.ref))) l2 = some (.lst (as.map V.ref)) := upd_same
    have hp2 := pr_imp (fun _ _ _ _ z => DueAt.same (Same.new (o := .lst (as.map V.ref)) hl2) z) hp
    have h02 := (s.trans (Same.new (o := .lst (as.map V.ref)) hl2)) _ _ h01
    generalize upd H' l2 (.lst (as.map V.ref)) = H2 at s2 h2 hp2 h02 ⊢
    have al : as.length = r.length := (pr_len hp).symm
    have al2 : (as.map V.ref).length = r.length := by rw [List.length_map]; exact al
    clear hp s hl2
    have no : rowL lines ahead z = none → Q .non H2 := fun e => q0 e _ s2
    have kc : kd = "plain" ∨ kd = "weak" ∨ kd = "pair" ∨ (kd ≠ "plain" ∧ kd ≠ "weak" ∧ kd ≠ "pair") := by
      by_cases a : kd = "plain"
      · exact .inl a
      · by_cases b : kd = "weak"
        · exact .inr (.inl b)
        · by_cases c : kd = "pair"
          · exact .inr (.inr (.inl c))
          · exact .inr (.inr (.inr ⟨a, b, c⟩))
    refine ⟨_, rfl, l0, _, 0, _, rfl, rfl, SqL.of h02, atI_nat (j := 0) rfl, rfl, _, rfl, ?_⟩
    rcases kc with rfl | rfl | rfl | ⟨a, b, c⟩
    case' inl =>
      refine iteA (by decide +kernel) ⟨_, rfl, l2, _, rfl, .inl (SqL.of h2), _, _, rfl, rfl, _, rfl, ?_⟩
      by_cases n8 : 8 < r.length
      · refine iteA (decide_eq_true (by show (8 : Int) < ((as.map V.ref).length : Int); omega)) ?_
        exact iteT (no (ev.trans (if_pos ⟨rfl, n8⟩)))
      refine iteB (decide_eq_false (by show ¬ (8 : Int) < ((as.map V.ref).length : Int); omega)) ?_
      refine ⟨_, rfl, l0, _, 0, _, rfl, rfl, SqL.of h02, atI_nat (j := 0) rfl, rfl, _, rfl, ?_⟩
      refine iteB (by decide +kernel) (iteF ⟨_, rfl, l0, _, 0, _, rfl, rfl, SqL.of h02, atI_nat (j := 0) rfl, rfl, _, rfl, ?_⟩)
      refine iteB (by decide +kernel) ⟨_, rfl, l0, _, 0, _, rfl, rfl, SqL.of h02, atI_nat (j := 0) rfl, zl, fun t ht => ?_⟩
      refine ⟨t, _, rfl, .inr (SqT.of upd_same), rfl, rfl, _, rfl, iteB (by decide +kernel) ?_⟩
      have eR := ev.trans ((if_neg fun e => n8 e.2).trans ((if_neg fun e => absurd e.1 (by decide +kernel)).trans ((if_neg fun e => absurd e.1 (by decide +kernel)).trans (if_neg fun e => e.1 rfl))))
    case' inr.inl =>
      refine iteB (by decide +kernel) ⟨_, rfl, l0, _, 0, _, rfl, rfl, SqL.of h02, atI_nat (j := 0) rfl, rfl, _, rfl, ?_⟩
      refine iteA (by decide +kernel) ⟨_, rfl, l2, _, rfl, .inl (SqL.of h2), rfl, _, rfl, ?_⟩
      by_cases n1 : r.length ≠ 1
      · refine iteA (by rw [decide_eq_false (fun e => n1 (by have := V.int.inj e; omega))]; rfl) (no (ev.trans ((if_neg fun e => absurd e.1 (by decide +kernel)).trans (if_pos ⟨rfl, n1⟩))))
      refine iteB (by rw [decide_eq_true (congrArg V.int (show ((as.map V.ref).length : Int) = 1 by omega))]; rfl) ?_
      refine ⟨_, rfl, l0, _, 0, _, rfl, rfl, SqL.of h02, atI_nat (j := 0) rfl, rfl, _, rfl, ?_⟩
      refine iteB (by decide +kernel) ⟨_, rfl, l0, _, 0, _, rfl, rfl, SqL.of h02, atI_nat (j := 0) rfl, zl, fun t ht => ?_⟩
      refine ⟨t, _, rfl, .inr (SqT.of upd_same), rfl, rfl, _, rfl, iteB (by decide +kernel) ?_⟩
      have eR := ev.trans ((if_neg fun e => absurd e.1 (by decide +kernel)).trans ((if_neg fun e => n1 e.2).trans ((if_neg fun e => absurd e.1 (by decide +kernel)).trans (if_neg fun e => e.2.1 rfl))))
    case' inr.inr.inl =>
      refine iteB (by decide +kernel) ⟨_, rfl, l0, _, 0, _, rfl, rfl, SqL.of h02, atI_nat (j := 0) rfl, rfl, _, rfl, ?_⟩
      refine iteB (by decide +kernel) (iteF ⟨_, rfl, l0, _, 0, _, rfl, rfl, SqL.of h02, atI_nat (j := 0) rfl, rfl, _, rfl, ?_⟩)
      refine iteA (by decide +kernel) ⟨_, rfl, l2, _, rfl, .inl (SqL.of h2), rfl, _, rfl, ?_⟩
      by_cases n2 : r.length ≠ 2
      · refine iteA (by rw [decide_eq_false (fun e => n2 (by have := V.int.inj e; omega))]; rfl) (iteT (no (ev.trans ((if_neg fun e => absurd e.1 (by decide +kernel)).trans ((if_neg fun e => absurd e.1 (by decide +kernel)).trans (if_pos ⟨rfl, n2⟩))))))
      refine iteB (by rw [decide_eq_true (congrArg V.int (show ((as.map V.ref).length : Int) = 2 by omega))]; rfl) ?_
      refine ⟨_, rfl, l0, _, 0, _, rfl, rfl, SqL.of h02, atI_nat (j := 0) rfl, zl, fun t ht => ?_⟩
      refine ⟨t, _, rfl, .inr (SqT.of upd_same), rfl, rfl, _, rfl, iteB (by decide +kernel) ?_⟩
      have eR := ev.trans ((if_neg fun e => absurd e.1 (by decide +kernel)).trans ((if_neg fun e => absurd e.1 (by decide +kernel)).trans ((if_neg fun e => n2 e.2).trans (if_neg fun e => e.2.2 rfl))))
    case inr.inr.inr =>
      have nk : ∀ k : Str, kd ≠ k → decide (V.str kd = V.str k) = false := fun k h => decide_eq_false fun e => h (V.str.inj e)
      refine iteB (nk _ a) ⟨_, rfl, l0, _, 0, _, rfl, rfl, SqL.of h02, atI_nat (j := 0) rfl, rfl, _, rfl, ?_⟩
      refine iteB (nk _ b) (iteF ⟨_, rfl, l0, _, 0, _, rfl, rfl, SqL.of h02, atI_nat (j := 0) rfl, rfl, _, rfl, ?_⟩)
      refine iteB (nk _ c) ⟨_, rfl, l0, _, 0, _, rfl, rfl, SqL.of h02, atI_nat (j := 0) rfl, zl, fun t ht => ?_⟩
      refine ⟨t, _, rfl, .inr (SqT.of upd_same), rfl, rfl, _, rfl, iteA ?_ (q0 (ev.trans ((if_neg fun e => a e.1).trans ((if_neg fun e => b e.1).trans ((if_neg fun e => c e.1).trans (if_pos ⟨a, b, c⟩))))) _ (s2.trans (Same.new ht)))⟩
      show (!inV (.str kd) [.str "plain", .str "weak", .str "pair"]) = true
      have e1 : ∀ k : Str, kd ≠ k → eqV (.str k) (.str kd) = false := fun k h => by
        show (k == kd) = false
        exact beq_false_of_ne fun e => h e.symm
      unfold inV
      rw [List.any_cons, List.any_cons, List.any_cons, List.any_nil, e1 _ a, e1 _ b, e1 _ c]
      rfl
    all_goals
      have s3 := s2.trans (Same.new (o := .tup [.str "plain", .str "weak", .str "pair"]) ht)
      have h3 := kp_n (o := .tup [.str "plain", .str "weak", .str "pair"]) h2 ht
      have hp3 := pr_imp (fun _ _ _ _ z => DueAt.same (Same.new (o := .tup [.str "plain", .str "weak", .str "pair"]) ht) z) hp2
      generalize upd H2 t (.tup [.str "plain", .str "weak", .str "pair"]) = H3 at s3 h3 hp3 ⊢
      refine ⟨_, rfl, l2, rfl, ⟨_, SqL.of h3⟩, ?_⟩
      refine comp_list (K := K) (xs := as.map V.ref) (fun i ys H' => H' = H3 ∧ ys = ((r.take i).map fun x => (dueL lines ahead x).1).map V.bl) ⟨rfl, rfl⟩ ?_ (by rw [al2]; exact len_small (by omega)) ?_ ?_ ?_
      · rintro i ys H' ⟨_, rfl⟩
        rw [List.length_map, List.length_map, List.length_take]; omega
      · rintro i ys H' _ ⟨rfl, _⟩
        exact SqL.of h3
      · rintro i x ys H' hx ⟨rfl, rfl⟩
        obtain ⟨a, ha, rfl⟩ : ∃ a, as[i]? = some a ∧ x = .ref a := by
          rw [List.getElem?_map] at hx
          obtain ⟨a, ha, e⟩ := Option.map_eq_some_iff.mp hx
          exact ⟨a, ha, e.symm⟩
        obtain ⟨y, hy, v, hv, _⟩ := pr_getR hp3 ha
        dsimp only [tNoIf]
        refine iteT ⟨_, rfl, a, _, 0, _, rfl, rfl, SqT.of hv, rfl, rfl, ?_⟩
        rw [List.take_add_one, hy, Option.toList_some, List.map_append, List.map_append]
        rfl
      · rintro ys H' ⟨rfl, rfl⟩ l4 hl4
        rw [al2, List.take_length]
        refine ⟨l4, _, rfl, .inl (SqL.of upd_same), rfl, flat_bools _, _, rfl, ?_⟩
        show if inV (.bl false) _ = true then _ else _
        rw [in_false]
        have s4 := s3.trans (Same.new (o := .lst ((r.map fun x => (dueL lines ahead x).1).map V.bl)) hl4)
        have h4 := kp_n (o := .lst ((r.map fun x => (dueL lines ahead x).1).map V.bl)) h3 hl4
        have hp4 := pr_imp (fun _ _ _ _ z => DueAt.same (Same.new (o := .lst ((r.map fun x => (dueL lines ahead x).1).map V.bl)) hl4) z) hp3
        cases ea : (r.map fun x => (dueL lines ahead x).1).all id with
        | false =>
          refine iteT (q0 (eR.trans (if_neg ?_)) _ s4)
          rw [ea]; intro z; cases z
        | true =>
          refine iteF ?_
          generalize upd H' l4 (.lst ((r.map fun x => (dueL lines ahead x).1).map V.bl)) = H4 at s4 h4 hp4 ⊢
          refine ⟨_, rfl, l2, rfl, ⟨_, SqL.of h4⟩, ?_⟩
          refine comp_list (K := K) (xs := as.map V.ref) (fun i ys H' => H' = H4 ∧ Ths H4 ((r.take i).map fun x => (dueL lines ahead x).2) ys) ⟨rfl, .nil⟩ ?_ (by rw [al2]; exact len_small (by omega)) ?_ ?_ ?_
          · rintro i ys H5 ⟨_, ht5⟩
            rw [← pr_len ht5, List.length_map, List.length_take]; omega
          · rintro i ys H5 _ ⟨rfl, _⟩
            exact SqL.of h4
          · rintro i x ys H5 hx ⟨rfl, ht5⟩
            obtain ⟨a, ha, rfl⟩ : ∃ a, as[i]? = some a ∧ x = .ref a := by
              rw [List.getElem?_map] at hx
              obtain ⟨a, ha, e⟩ := Option.map_eq_some_iff.mp hx
              exact ⟨a, ha, e.symm⟩
            obtain ⟨y, hy, v, hv, tv⟩ := pr_getR hp4 ha
            dsimp only [tNoIf]
            refine iteT ⟨_, rfl, a, _, 1, _, rfl, rfl, SqT.of hv, rfl, rfl, ?_⟩
            rw [List.take_add_one, hy, Option.toList_some, List.map_append]
            exact pr_app ht5 (.cons tv .nil)
          · rintro ys H5 ⟨rfl, ht5⟩ l6 hl6
            rw [al2, List.take_length] at ht5
            exact q1 _ (eR.trans (if_pos ea)) l6 ys _ (s4.trans (Same.new hl6)) (s4.free hl6) upd_same (Ths.keep (Tups.new hl6) ht5)
end
section
variable {C : Addr}
def spReadE (C XN : Addr) : Sp := fun vs H Q E => ∃ (p : Addr) (A : HA) (S : HS) (z : Str) (slot : Nat), vs = [.ref p, .str z, .int slot] ∧ HouseAt C H p A S ∧ slot < S.slots.length ∧ noteOk z = true ∧
  (∀ rows, noteOf z = some rows → rows ≠ [] ∧ (∀ r ∈ rows, r.2.length ≤ 900 ∧ ∀ n : Int, .box n ∈ r.2 → 0 ≤ n ∧ n < rows.length) ∧ S.boxes.length + rows.length ≤ 900 ∧ (S.boxes.length : Int) + rows.length ≤ S.room ∧ Out C H p A (S.gave rows slot) Q (.int (S.last + 1))) ∧
  (noteOf z = none → ∀ H', Same H H' → E (.ref XN) none H')
theorem ok_f_read_e {f : Addr} {ds : List Value} (F : FunD K "read" "read" s_f_read f fd ds) (T : TX K mg C) {C_7 : Addr} (M_check_slot : MethOk P w K mg base C n "check_slot" ["self", "slot"] (spCheckSlot C) [[]])
    (DX_draft_in : DefX P w K mg base n "draft_in" ["note"] (spDraftInE C_7) [[]])
    (M_make_room : MethOk P w K mg base C n "make_room" ["self", "count", "besides"] (spMakeRoom0 C) [[], [.none]])
    (M_build_l : MethOk P w K mg base C n "build" ["self", "draft", "slot"] (spBuildL C) [[]]) :
    FnOk P w K mg base (CXF P w) (n + 1) f fd ["house", "note", "slot"] (spReadE C C_7) := by
  obtain ⟨f_make_room, fd_make_room, m_make_room, G_make_room, b_make_room⟩ := M_make_room
  refine F.okX sc_f_read (by rintro _ _ _ _ ⟨_, _, _, _, _, rfl, _⟩; rfl) fun _ _ _ s H vs Q E hr h => ?_
  obtain ⟨p, A', S, z, slot, rfl, hh, hs, hz, k, kN⟩ := h
  have hu := hu_of hr
  refine ⟨_, (pss_cons (ps_expr (qm M_check_slot (pv 0) T.cl hr (pa_cons (pv 2) pa_nil)))
    (pss_cons (ps_set (i := 3) sc_f_read.nd rfl (Or.inl rfl) (qcx DX_draft_in throws_cx hr (pa_cons (pv 1) pa_nil)))
    (pss_cons (ps_expr (pe_meth (pv 0) T.cl m_make_room G_make_room hr (b_make_room [.none] (by simp)) vals_n pass0 (pa_cons (pe_callB call_len_seq (by rfl) T.g_len PySem.boot_len (pa_cons (pv 3) pa_nil)) pa_nil)))
    (pss_one (ps_ret (qm M_build_l (pv 0) T.cl hr (pa_cons (pv 3) (pa_cons (pv 2) pa_nil)))))))), ?_⟩
  refine ⟨_, rfl, p, A'.dx, _, rfl, hh.ob, hf_none, _, rfl, p, A', S, slot, rfl, hh, by omega, by omega, ?_⟩
  refine ⟨_, rfl, z, rfl, hz, fun rows e l as H1 s1 hl hL hP => ?_, kN⟩
  obtain ⟨hne, hrok, hfew, hroom, k⟩ := k rows e
  have hh1 := hh.same s1
  have alen := pr_len hP
  refine ⟨_, rfl, p, A'.dx, _, rfl, hh1.ob, hf_none, _, rfl, l, _, rfl, .inl (SqL.of hL), p, A', S, _, _, rfl, hh1, by rw [List.length_map, ← alen]; exact hroom, ?_⟩
  refine ⟨_, rfl, p, A'.dx, _, rfl, hh1.ob, hf_none, _, rfl, _, rfl, p, A', S, rows, slot, l, as, rfl, hh1, hL, hP, hne, hrok, hfew, hroom, hs, ?_⟩
  exact fun A2 H3 h3 fr tu gr => k A2 H3 h3 (fun b o e nb => fr b o (s1 b o e) nb) ((Tups.of_same s1).trans tu) fun b hb => (gr b hb).imp id fun z => s1.free z
end
end LW


/-! try: what is wanted of a refusal may lean on the state -/
namespace L2
open PySem PySem.Spec PyProof.Rows PySem.W
def tTryE (K : Fg) (HE : Addr) (i j : Nat) (tb : XK → TS) : TS := fun D σ H => ∃ E : XK, (∀ C H', E (.ref C) none H' → exmOne K (.ref C) (.ref HE) = some true) ∧ tb E D σ H ∧
  ∀ a C H', H' a = none → E (.ref C) none H' → D.nx (((σ.set i (some (.ref a))).set j (some (.ref a))).set i none) (upd H' a (ExcO a C))
theorem ps_tryE {X : Cx} {i j : Nat} {x n y : Str} {HE : Addr} {body : List Stmt} {tb : XK → TS} {xp yp np ap hp pos : Pos} (hex : X.ex = []) (hst : X.stack = X.env :: X.outer) (hf : X.env.frame = some X.env.locals) (hN : X.N.Nodup) (hi : X.N[i]? = some n) (hj : X.N[j]? = some y) (hij : i ≠ j)
    (ln : X.env.scope.names.lookup n = some .local) (ly : X.env.scope.names.lookup y = some .local) (hg : Gl X x) (hm : X.mg x = some (.ref HE))
    (hb : ∀ E, PXs X E body (tb E)) (hs : swapsWith (.Name n np) (some (.Name y yp)) ap.line X.env = pure false := by rfl) (hdb : (x == ("__debug__" : Str)) = false := by decide) (hdn : (n == ("__debug__" : Str)) = false := by decide) :
    PS X (.Try body [.ExceptHandler (some (.Name x xp)) (some n) [.Assign [.Name y yp] (.Name n np) ap] hp] [] [] pos) (tTryE X.K HE i j tb) := by
  intro pins s σ H D I h
  obtain ⟨E, hE, h1, h2⟩ := h
  exact ps_try hex hst hf hN hi hj hij ln ly hg hm hE (hb E) hs hdb hdn pins s σ H D I ⟨h1, h2⟩
end L2

/-! NOTES that may be refused: the law's rows and record -/
namespace LW
open PySem L2
theorem line_facts {z : Str} (h : z ∈ lineL) : agree 1 z = true ∧ agree 2 z = true ∧ agree 3 z = true ∧ lineOk z = true ∧ lineLOk z = true ∧ 10 ∉ z.cps.toList ∧ z.length ≤ 60 := by
  have := List.all_eq_true.mp lines_agree z h
  simp only [Bool.and_eq_true, decide_eq_true_eq] at this
  obtain ⟨⟨⟨⟨⟨⟨a, b⟩, c⟩, d⟩, e⟩, f⟩, g⟩ := this
  exact ⟨a, b, c, d, e, f, g⟩
theorem line_agree {z : Str} (h : z ∈ lineL) {n : Nat} (h1 : 1 ≤ n) (h3 : n ≤ 3) : agree (n : Int) z = true := by
  obtain ⟨a, b, c, _⟩ := line_facts h
  have : n = 1 ∨ n = 2 ∨ n = 3 := by omega
  rcases this with rfl | rfl | rfl
  · exact a
  · exact b
  · exact c
theorem agree_none {c : Int} {z : Str} (h : agree c z = true) (e : rowOf c z = none) : rowL c 2 z = none := by
  unfold agree at h
  rw [e] at h
  exact of_decide_eq_true h
theorem agree_some {c : Int} {z : Str} {r : Row} (h : agree c z = true) (e : rowOf c z = some r) : rowL c 2 z = some (r.2.map (ren fun j => 2 + j)) ∧ (Txt.split z " ").head? = some r.1 ∧ r.2.length ≤ 8 ∧ ∀ n : Int, .box n ∈ r.2 → 0 ≤ n ∧ n < c := by
  unfold agree at h
  rw [e] at h
  simp only [Bool.and_eq_true, decide_eq_true_eq, List.all_eq_true] at h
  exact ⟨h.1.1.1, h.1.1.2, h.1.2, fun n hn => of_decide_eq_true (h.2 _ hn)⟩
theorem joinOk_of {sep : Str} {xs : List Str} {k : Nat} (h : ∀ x ∈ xs, x.length ≤ k) (hb : xs.length * (k + sep.length) ≤ 16777216) : JoinOk sep xs = true := by
  unfold JoinOk
  rw [StrLaws.joinTotal, Bool.not_eq_true']
  have hs : (xs.map (·.length)).sum ≤ xs.length * k := by
    clear hb
    induction xs with
    | nil => simp
    | cons x xs ih =>
      have := ih fun y hy => h y (List.mem_cons_of_mem _ hy)
      have := h x List.mem_cons_self
      rw [List.map_cons, List.sum_cons, List.length_cons, Nat.succ_mul]
      omega
  rw [Nat.mul_add] at hb
  show decide (_ > sizeLine) = false
  rw [sizeLine_eq]
  exact decide_eq_false (by omega)
theorem note_split {ls : List Str} (hne : ls ≠ []) (h : ∀ z ∈ ls, z ∈ lineL) : Txt.split (Txt.join "\n" ls) "\n" = ls := split_join (c := 10) hne fun p hp => (line_facts (h p hp)).2.2.2.2.2.1
theorem note_of {ls : List Str} (hne : ls ≠ []) (h : ∀ z ∈ ls, z ∈ lineL) : noteOf (Txt.join "\n" ls) = allOf (rowOf ls.length) ls := by
  unfold noteOf
  rw [note_split hne h]
theorem note_join {ls : List Str} (h3 : ls.length ≤ 3) (h : ∀ z ∈ ls, z ∈ lineL) : JoinOk "\n" ls = true := joinOk_of (k := 60) (fun x hx => (line_facts (h x hx)).2.2.2.2.2.2) (by
  rw [show (Str.ofString "\n").length = 1 by decide +kernel]
  omega)
theorem note_ok {ls : List Str} (hne : ls ≠ []) (h3 : ls.length ≤ 3) (h : ∀ z ∈ ls, z ∈ lineL) : noteOk (Txt.join "\n" ls) = true := by
  unfold noteOk
  rw [note_split hne h]
  simp only [Bool.and_eq_true, decide_eq_true_eq, List.all_eq_true]
  refine ⟨⟨?_, fun x hx => (line_facts (h x hx)).2.2.2.1⟩, by omega⟩
  have e : Txt.join "\n" ls = Str.join "\n" ls := StrLaws.glued_eq_join _ _
  rw [e]
  have h1 := StrLaws.join_length_le "\n" ls
  have hs : ∀ xs : List Str, (∀ x ∈ xs, x.length ≤ 60) → (xs.map (·.length)).sum ≤ xs.length * 60 := fun xs => by
    induction xs with
    | nil => simp
    | cons x xs ih =>
      intro h
      have := ih fun y hy => h y (List.mem_cons_of_mem _ hy)
      have := h x List.mem_cons_self
      rw [List.map_cons, List.sum_cons, List.length_cons, Nat.succ_mul]
      omega
  have h2 := hs ls fun x hx => (line_facts (h x hx)).2.2.2.2.2.2
  rw [show (Str.ofString "\n").length = 1 by decide +kernel] at h1
  omega
/-- the law's row of a line: None, or a list of things -/
def RowV (n : Int) (H : Hp) (z : Str) (v : V) : Prop := (rowL n 2 z = none ∧ v = .non) ∨ ∃ ts a, rowL n 2 z = some ts ∧ v = .ref a ∧ ThL H ts a
theorem RowV.same {n : Int} {H H' : Hp} {z : Str} {v : V} (s : Same H H') (h : RowV n H z v) : RowV n H' z v := by
  rcases h with h | ⟨ts, a, e, rfl, vs, h1, h2⟩
  · exact .inl h
  · exact .inr ⟨ts, a, e, rfl, vs, s _ _ h1, Ths.keep (Tups.of_same s) h2⟩
theorem comp_rows {K : Fg} {l0 : Addr} {ls : List Str} {te : TE} {σ : St} {fr : List Nat} {H : Hp} {Q : VK} (hl : H l0 = some (.lst (ls.map V.str))) (h3 : ls.length ≤ 3)
    (hs : ∀ (z : Str) (H' : Hp) (Q' : VK), z ∈ ls → Same H H' → (rowL ls.length 2 z = none → ∀ H2, Same H' H2 → Q' .non H2) → (∀ ts, rowL ls.length 2 z = some ts → ∀ l vs H2, Same H' H2 → H' l = none → H2 l = some (.lst vs) → Ths H2 ts vs → Q' (.ref l) H2) → te (some (.str z) :: seen σ fr) H' Q')
    (hd : ∀ l vs H', Same H H' → H l = none → H' l = some (.lst vs) → Paired (RowV ls.length H') ls vs → Q (.ref l) H') : tCompK fr tNoIf te σ Q (Itl K l0) H := by
  refine comp_list (K := K) (xs := ls.map V.str) (fun i ys H' => Same H H' ∧ Paired (RowV ls.length H') (ls.take i) ys) ⟨Same.refl _, .nil⟩ ?_ (by rw [List.length_map]; exact len_small (by omega)) ?_ ?_ ?_
  · rintro i ys H' ⟨_, hp⟩
    rw [← pr_len hp, List.length_take]; omega
  · rintro i ys H' _ ⟨s, _⟩
    exact SqL.of (s _ _ hl)
  · rintro i x ys H' hx ⟨s, hp⟩
    have hi : i < ls.length := by
      have := (List.getElem?_eq_some_iff.mp hx).1
      rw [List.length_map] at this
      exact this
    have hri := List.getElem?_eq_getElem hi
    have ex : x = V.str ls[i] := by
      rw [List.getElem?_map, hri] at hx
      exact (Option.some.inj hx).symm
    subst ex
    dsimp only [tNoIf]
    have tk : ls.take (i + 1) = ls.take i ++ [ls[i]] := by rw [List.take_add_one, hri]; rfl
    refine iteT (hs ls[i] H' _ (List.getElem_mem hi) s (fun e H2 s2 => ⟨s.trans s2, ?_⟩) fun ts e l vs H2 s2 hl2 h2 ht => ⟨s.trans s2, ?_⟩)
    · rw [tk]
      exact pr_app (pr_imp (fun _ _ _ _ z => z.same s2) hp) (.cons (.inl ⟨e, rfl⟩) .nil)
    · rw [tk]
      exact pr_app (pr_imp (fun _ _ _ _ z => z.same s2) hp) (.cons (.inr ⟨ts, l, e, rfl, vs, h2, ht⟩) .nil)
  · rintro ys H' ⟨s, hp⟩ l hl2
    rw [List.length_map, List.take_length] at hp
    exact hd l ys _ (s.trans (Same.new hl2)) (s.free hl2) upd_same (pr_imp (fun _ _ _ _ z => z.same (Same.new hl2)) hp)
theorem rowV_lists {n : Int} {H : Hp} {ls : List Str} {vs : List V} (h : Paired (RowV n H) ls vs) : ∀ y ∈ vs, y = .non ∨ ∃ a zs, y = .ref a ∧ H a = some (.lst zs) := fun y hy => by
  obtain ⟨j, hj⟩ := List.getElem?_of_mem hy
  obtain ⟨z, _, q | ⟨ts, a, _, rfl, vs2, h1, _⟩⟩ := pr_getR h hj
  · exact .inl q.2
  · exact .inr ⟨a, vs2, rfl, h1⟩
theorem rowV_any {n : Int} {H : Hp} : ∀ {ls : List Str} {vs : List V}, Paired (RowV n H) ls vs → (vs.any fun y => decide (y = .non)) = ls.any fun z => decide (rowL n 2 z = none)
  | _, _, .nil => rfl
  | _, _, .cons h t => by
    rw [List.any_cons, List.any_cons, rowV_any t]
    rcases h with ⟨e, rfl⟩ | ⟨ts, a, e, rfl, _⟩
    · rw [decide_eq_true e, decide_eq_true (show V.non = V.non from rfl)]
    · rw [decide_eq_false (show ¬ V.ref a = V.non from fun z => by cases z), decide_eq_false (fun z => by rw [e] at z; cases z)]
def w0 : Box := ⟨1, "weak", [.non]⟩
/-- the record as it stands ahead of the last loop -/
structure TailAt (C : Addr) (H : Hp) (p : Addr) (A : HA) (S : HS) (ls : List Str) (as : List Addr) (nb : List Box) (l0 ra ak ar f0 : Addr) : Prop where
  hh : HouseAt C H p A S
  bx : S.boxes = w0 :: nb
  sl : S.slots = [.box 2, .box 1]
  hl : H l0 = some (.lst (ls.map V.str))
  hr : H ra = some (.lst (as.map V.ref))
  rows : Paired (fun b a => ThL H b.row a) nb as
  kd : ∀ (i : Nat) (b : Box) (z : Str), nb[i]? = some b → ls[i]? = some z → (Txt.split z " ").head? = some b.kind ∧ z.length ≤ 60 ∧ b.name = 2 + (i : Int)
  ll : ls.length = nb.length
  few : nb.length ≤ 3
  hk : H ak = some (.dK (kindsD [w0]))
  hf : H ar = some (.dK (fieldsD [w0] [f0]))
  h0 : ThL H [.non] f0
  ok : ak ∉ A.foot p
  or' : ar ∉ A.foot p
  ne : ak ≠ ar
theorem pr_ix {α β : Type} {F : α → β → Prop} : ∀ {xs : List α} {ys : List β}, xs.length = ys.length → (∀ (i : Nat) (x : α) (y : β), xs[i]? = some x → ys[i]? = some y → F x y) → Paired F xs ys
  | [], [], _, _ => .nil
  | [], _ :: _, h, _ => by simp at h
  | _ :: _, [], h, _ => by simp at h
  | x :: xs, y :: ys, h, k => .cons (k 0 x y rfl rfl) (pr_ix (by simpa using h) fun i a b ha hb => k (i + 1) a b ha hb)
theorem allOf_get {α β : Type} {f : α → Option β} : ∀ {l : List α} {ys : List β} {i : Nat} {x : α}, allOf f l = some ys → l[i]? = some x → ∃ y, ys[i]? = some y ∧ f x = some y
  | [], _, i, _, _, h => by simp at h
  | a :: l, ys, i, x, h, hx => by
    have h : (match f a with | none => none | some y => match allOf f l with | none => none | some ys => some (y :: ys)) = some ys := h
    cases ha : f a with
    | none => rw [ha] at h; cases h
    | some y =>
      rw [ha] at h
      cases hl : allOf f l with
      | none => rw [hl] at h; cases h
      | some zs =>
        rw [hl] at h
        cases h
        cases i with
        | zero => cases hx; exact ⟨y, rfl, ha⟩
        | succ i => exact allOf_get (l := l) (ys := zs) (i := i) hl (by simpa using hx)
theorem allOf_ne {α β : Type} {f : α → Option β} : ∀ {l : List α}, (∀ x ∈ l, f x ≠ none) → allOf f l ≠ none
  | [], _, z => by cases z
  | a :: l, h, z => by
    have z : (match f a with | none => none | some y => match allOf f l with | none => none | some ys => some (y :: ys)) = none := z
    cases ha : f a with
    | none => exact h a List.mem_cons_self ha
    | some y =>
      rw [ha] at z
      cases hl : allOf f l with
      | none => exact allOf_ne (fun w hw => h w (List.mem_cons_of_mem _ hw)) hl
      | some zs => rw [hl] at z; cases z
theorem rowV_refs {n : Int} {H : Hp} : ∀ {ls : List Str} {vs : List V}, Paired (RowV n H) ls vs → (∀ z ∈ ls, rowL n 2 z ≠ none) → ∃ as : List Addr, vs = as.map V.ref ∧ Paired (fun z a => ∃ ts, rowL n 2 z = some ts ∧ ThL H ts a) ls as
  | _, _, .nil, _ => ⟨[], rfl, .nil⟩
  | _, _, .cons h t, k => by
    obtain ⟨as, e, hp⟩ := rowV_refs t fun z hz => k z (List.mem_cons_of_mem _ hz)
    rcases h with ⟨e1, _⟩ | ⟨ts, a, e1, rfl, h1⟩
    · exact absurd e1 (k _ List.mem_cons_self)
    · exact ⟨a :: as, by rw [e]; rfl, .cons ⟨ts, e1, h1⟩ hp⟩
/-- the boxes that were read, and the law's rows of them -/
theorem rows_boxes {ls : List Str} {rows : List Row} {as : List Addr} {H : Hp} (h1 : 1 ≤ ls.length) (h3 : ls.length ≤ 3) (hm : ∀ z ∈ ls, z ∈ lineL) (e : allOf (rowOf ls.length) ls = some rows) (hp : Paired (fun z a => ∃ ts, rowL ls.length 2 z = some ts ∧ ThL H ts a) ls as) :
    Paired (fun b a => ThL H b.row a) (newB 1 rows) as ∧ ∀ (i : Nat) (b : Box) (z : Str), (newB 1 rows)[i]? = some b → ls[i]? = some z → (Txt.split z " ").head? = some b.kind ∧ z.length ≤ 60 ∧ b.name = 2 + (i : Int) := by
  have hl := allOf_len e
  have key : ∀ (i : Nat) (b : Box) (z : Str), (newB 1 rows)[i]? = some b → ls[i]? = some z → ∃ r, rowOf ls.length z = some r ∧ b = ⟨1 + 1 + (i : Int), r.1, r.2.map (ren fun j => 1 + 1 + j)⟩ := fun i b z hb hz => by
    obtain ⟨r, hr, er⟩ := allOf_get e hz
    rw [newB_at hr] at hb
    exact ⟨r, er, (Option.some.inj hb).symm⟩
  refine ⟨pr_ix (by rw [newB_len, hl, pr_len hp]) fun i b a hb ha => ?_, fun i b z hb hz => ?_⟩
  · obtain ⟨z, hz, ts, e1, e2⟩ := pr_getR hp ha
    obtain ⟨r, er, rfl⟩ := key i b z hb hz
    have := (agree_some (line_agree (hm z (List.mem_of_getElem? hz)) h1 h3) er).1
    rw [e1] at this
    rw [Option.some.inj this] at e2
    have ef : (fun j : Int => 1 + 1 + j) = fun j => 2 + j := by funext j; omega
    show ThL H (r.2.map (ren fun j => 1 + 1 + j)) a
    rw [ef]
    exact e2
  · obtain ⟨r, er, rfl⟩ := key i b z hb hz
    refine ⟨(agree_some (line_agree (hm z (List.mem_of_getElem? hz)) h1 h3) er).2.1, (line_facts (hm z (List.mem_of_getElem? hz))).2.2.2.2.2.2, ?_⟩
    show (1 : Int) + 1 + (i : Int) = 2 + (i : Int)
    omega
variable {H : Hp} {W : List Rt} {i : Nat} in
theorem Own.lst {a : Addr} {vs : List V} (w : Own H W) (h : W[i]? = some (rLst a vs)) : H a = some (.lst vs) := by
  obtain ⟨F, q, _⟩ := w.get h
  exact q
theorem Same.two {H : Hp} {a : Addr} {o o' : HO} (h : H a = none) : Same H (upd (upd H a o) a o') := fun b u q => by rw [upd_ne (ne_of_none q h), upd_ne (ne_of_none q h)]; exact q
theorem fields_new {H : Hp} {ar f0 : Addr} (h : H ar = none) (hf : (upd H ar (.dK [])) f0 = none) : Same H (upd (upd (upd H ar (.dK [])) f0 (.lst [.non])) ar (.dK (fieldsD [w0] [f0]))) ∧ (upd (upd (upd H ar (.dK [])) f0 (.lst [.non])) ar (.dK (fieldsD [w0] [f0]))) f0 = some (.lst [.non]) := by
  have ne : f0 ≠ ar := fun e => by rw [e, upd_same] at hf; cases hf
  have h0 : H f0 = none := by rw [← hf, upd_ne ne]
  refine ⟨fun b u q => ?_, ?_⟩
  · rw [upd_ne (ne_of_none q h), upd_ne (ne_of_none q h0), upd_ne (ne_of_none q h)]; exact q
  · rw [upd_ne ne]; exact upd_same
theorem off_foot {C : Addr} {H : Hp} {p b : Addr} {A : HA} {S : HS} (h : HouseAt C H p A S) (n : H b = none) : b ∉ A.foot p := fun m => by
  obtain ⟨o, e⟩ := h.there b m
  rw [n] at e; cases e
theorem HouseAt.two {C : Addr} {H H' : Hp} {p x y : Addr} {A : HA} {S : HS} {k1 k2 : List (Key × V)} (h : HouseAt C H p A S) (f : Fr2 x y H H') (nx : x ∉ A.foot p) (ny : y ∉ A.foot p) (hx : H x = some (.dK k1)) (hy : H y = some (.dK k2)) : HouseAt C H' p A S :=
  h.keep (fun b hb => by
    obtain ⟨o, e⟩ := h.there b hb
    rw [e]
    exact f b o e (fun z => nx (z ▸ hb)) fun z => ny (z ▸ hb)) (f.tups hx hy)
def pairRow : Row := (Str.ofString "pair", [T.box 0, T.num (-7)])
theorem pair_note : noteOf "pair #0 -7" = some [pairRow] := by decide +kernel
theorem pair_new : newB 1 [pairRow] = [⟨2, "pair", [.box 2, .num (-7)]⟩] := rfl
theorem pair_kd : ∀ (i : Nat) (b : Box) (z : Str), (newB 1 [pairRow])[i]? = some b → ([Str.ofString "pair #0 -7"])[i]? = some z → (Txt.split z " ").head? = some b.kind ∧ z.length ≤ 60 ∧ b.name = 2 + (i : Int) := fun i b z hb hz => by
  rw [pair_new] at hb
  match i, hb, hz with
  | 0, hb, hz =>
    cases hb
    cases hz
    exact ⟨by decide +kernel, by decide +kernel, rfl⟩
theorem mk1 : mergeK ([] : List (Key × V)) [(Sum.inl 1, .str "weak")] = kindsD [w0] := by decide +kernel
theorem mk2 {f0 : Addr} : mergeK ([] : List (Key × V)) [(Sum.inl 1, .ref f0)] = fieldsD [w0] [f0] := rfl
section
variable {C : Addr}
def spLaw (K : Fg) : Sp := fun vs H Q _ => ∃ (a : Addr) (ns : List Int), vs = [.ref a] ∧ Scr K H a ns ∧ ns.length ≤ 63 ∧ ∀ H', Q (.bl true) H'
theorem bs_f_law_0 : BlkScope (defScope s_f_law) ["script", "lines", "house", "found", "e", "rows", "kinds", "fields", "ahead", "k"] (compScope ((asgVal (stAt (defBody s_f_law) 0)))) "k" ["script"] [0] :=
  bsk
theorem bs_f_law_1 : BlkScope (defScope s_f_law) ["script", "lines", "house", "found", "e", "rows", "kinds", "fields", "ahead", "k"] (compScope ((asgVal (stAt (defBody s_f_law) 5)))) "line" ["lines"] [1] :=
  bsk
theorem ok_f_law {f : Addr} {t_mk1 t_mk2 t_rd t_sl : Tok} (F : Fun K "law" "law" s_f_law f fd) (T : TX K mg C) {C_8 C_0 C_1 C_2 C_3 C_4 C_5 C_6 C_7 : Addr} (gx_8 : mg "HouseError" = some (.ref C_8)) (gx_7 : mg "NoNote" = some (.ref C_7)) (Z : XC K C_8 [C_0, C_1, C_2, C_3, C_4, C_5, C_6, C_7]) (D_law_cell_at : DefOk P w K mg base n "_law_cell_at" ["script", "k"] (spCellD K) [[]])
    (D_law_line : DefOk P w K mg base n "_law_line" ["cell"] (spLine) [[]])
    (D_House : MakeOk P w K mg base C n ["self", "room", "slots"] (spInit C) [[], [.int 4 t_sl]])
    (M_make : MethOk P w K mg base C n "make" ["self", "kind", "size", "slot"] (spMake0 C) [[], [.int 0 t_mk1, .int 0 t_mk2], [.int 0 t_mk2]])
    (DX_read : DefX P w K mg base n "read" ["house", "note", "slot"] (spReadE C C_7) [[], [.int 0 t_rd]])
    (D_law_row : DefOk P w K mg base n "_law_row" ["line", "lines", "ahead"] (spRowLw) [[]])
    (D_law_alone : DefOk P w K mg base n "_law_alone" ["e"] (spAlone [C_0, C_1, C_2, C_3, C_4, C_5, C_6, C_7]) [[]])
    (D_law_as : DefOk P w K mg base n "_law_as" ["house", "kinds", "rows", "slots"] (spAs C) [[]])
    (D_law_whole : DefOk P w K mg base n "_law_whole" ["found"] (spWhole) [[]]) :
    FnOk P w K mg base CX0 (n + 1) f fd ["script"] (spLaw K) := by
  obtain ⟨fI_House, fdI_House, jI_House, hjI_House, MK_House, GI_House, bI_House⟩ := D_House
  obtain ⟨f_readX, fd_readX, n_readX, k_readX, J_readX, c_readX⟩ := DX_read
  refine F.ok sc_f_law (by rintro _ _ _ _ ⟨_, _, rfl, _⟩; rfl) fun _ _ _ s H vs Q E hr h => ?_
  obtain ⟨a, ns, rfl, hS, hlen, q⟩ := h
  have hu := hu_of hr
  refine ⟨_, (pss_cons (ps_set (i := 1) sc_f_law.nd rfl (Or.inr rfl) (pe_comp bs_f_law_0 rfl (pi_range1 (by rfl) T.g_range (pa_cons (pe_op op_add pe_int (pe_op op_mod (qc D_law_cell_at hr (pa_cons (pv 0) (pa_cons pe_int pa_nil))) pe_int)) pa_nil)) (fun _ _ _ _ => pifs_nil) (fun _ _ _ _ => (qc D_law_line hr (pa_cons (qc D_law_cell_at hr (pa_cons (pv 1) (pa_cons (pe_op op_add pe_int (pv 0)) pa_nil))) pa_nil)))))
    (pss_cons (ps_set (i := 2) sc_f_law.nd rfl (Or.inl rfl) (pe_make MK_House GI_House (hr.mono hjI_House) (by rfl) T.g_house (bI_House [] (by simp)) .nil pass0 (pa_cons pe_int (pa_cons pe_int pa_nil))))
    (pss_cons (ps_expr (qm M_make (pv 2) T.cl hr (pa_cons pe_str (pa_cons pe_int (pa_cons pe_int pa_nil)))))
    (pss_cons (ps_set (i := 3) sc_f_law.nd rfl (Or.inl rfl) pe_non)
    (pss_cons (ps_tryE rfl rfl rfl sc_f_law.nd (i := 4) (j := 3) rfl rfl (by decide) rfl rfl (by rfl) gx_8 (fun _ => (pxs_one (px_set (i := 3) sc_f_law.nd rfl (Or.inl rfl) (pex_call J_readX hr (by rfl) n_readX k_readX (c_readX [] (by simp)) .nil rfl (pa_cons (pv 2) (pa_cons (pe_bm PySem.F.plainAttrs_str PySem.F.slot_str_join PySem.F.type_str_join mt_join pe_str (pa_cons (pv 1) pa_nil)) (pa_cons pe_int pa_nil))))))))
    (pss_cons (ps_setComp (i := 5) bs_f_law_1 rfl sc_f_law.nd rfl (Or.inl rfl) (pi_list (pv 1)) (fun _ _ _ _ => pifs_nil) (fun _ _ _ _ => (qc D_law_row hr (pa_cons (pv 0) (pa_cons (pe_callB (callk_len (K' := K) rfl) (by rfl) T.g_len PySem.boot_len (pa_cons (pv 1) pa_nil)) (pa_cons pe_int pa_nil))))))
    (pss_cons (ps_set (i := 6) sc_f_law.nd rfl (Or.inl rfl) (pe_disp (pps_cons pe_int pe_str pps_nil) rfl rfl (by intro z; cases z) (by decide)))
    (@pss_cons _ _ _ _ _ (ps_set (i := 7) sc_f_law.nd rfl (Or.inl rfl) (pe_disp (pps_cons pe_int (@pe_lst _ _ _ _ (pa_cons pe_non pa_nil)) pps_nil) rfl rfl (by intro z; cases z) (by decide)))
    (pss_cons (ps_set (i := 8) sc_f_law.nd rfl (Or.inl rfl) pe_int)
    (@pss_cons _ _ _ _ _ (ps_if (pt_cmpR (op_inN hr.units) pe_non (pv 5) rfl) (pss_cons (ps_if (PW.pt (pw_or (pt_not (pt_val (pe_callB call_isiX (by rfl) T.g_isi PyProof.Rows.boot_isinstance (pa_cons (pv 3) (pa_cons (pe_glob (v := .ref C_7) (by rfl) gx_7 rfl) pa_nil))))) (pw_or1 (pt_not (pt_val (qc D_law_alone hr (pa_cons (pv 3) pa_nil))))))) (pss_one (ps_ret pe_bl)) pss_nil)
    (@pss_cons _ _ _ _ _ (ps_if (pt_not (pt_val (qc D_law_as hr (@pa_cons _ _ _ _ _ (pv 2) (@pa_cons _ _ _ _ _ (pv 6) (@pa_cons _ _ _ _ _ (pv 7) (@pa_cons _ _ _ _ _ (@pe_lst _ _ _ _ (@pa_cons _ _ _ _ _ pe_non (@pa_cons _ _ _ _ _ (@pe_tup _ _ _ _ _ (pa_cons pe_str (pa_cons pe_int pa_nil))) pa_nil rfl) rfl)) pa_nil rfl) rfl) rfl) rfl)))) (pss_one (ps_ret pe_bl)) pss_nil)
    (@pss_cons _ _ _ _ _ (@ps_set _ _ 1 _ _ _ _ sc_f_law.nd rfl (Or.inr rfl) (@pe_lst _ _ _ _ (pa_cons pe_str pa_nil)) rfl (Or.inl rfl))
    (@pss_cons _ _ _ _ _ (@ps_set _ _ 5 _ _ _ _ sc_f_law.nd rfl (Or.inl rfl) (@pe_lst _ _ _ _ (@pa_cons _ _ _ _ _ (@pe_lst _ _ _ _ (@pa_cons _ _ _ _ _ (@pe_tup _ _ _ _ _ (pa_cons pe_str (pa_cons pe_int pa_nil))) (pa_cons (pe_un un_neg pe_int) pa_nil) rfl)) pa_nil rfl)) rfl (Or.inl rfl))
    (pss_one (ps_set (i := 3) sc_f_law.nd rfl (Or.inl rfl) (pe_call J_readX hr (by rfl) n_readX k_readX (c_readX [.int 0 t_rd] (by simp)) (vals_1 0 t_rd) passF (pa_cons (pv 2) (pa_cons pe_str pa_nil))))))))) pss_nil)
    (pss_cons (ps_for PassesOwn.never rfl (pi_range1 (by rfl) T.g_range (pa_cons (pe_callB call_len_seq (by rfl) T.g_len PySem.boot_len (pa_cons (pv 5) pa_nil)) pa_nil)) (pg_name (i := 9) sc_f_law.nd rfl (Or.inl rfl))
    (pss_cons (ps_dput hu (pv 6) (pe_op op_add (pv 8) (pv 9)) (pe_ix ix_list (pe_bm PySem.F.plainAttrs_str PySem.F.slot_str_split PySem.F.type_str_split mt_split (pe_ix ix_list (pv 1) (pv 9) (fun _ _ => rfl)) (pa_cons pe_str pa_nil)) pe_int (fun _ _ => rfl)) rfl)
    (pss_one (ps_dput hu (pv 7) (pe_op op_add (pv 8) (pv 9)) (pe_ix ix_list (pv 5) (pv 9) (fun _ _ => rfl)) rfl))))
    (pss_one (ps_ret (pe_and (qc D_law_whole hr (pa_cons (pv 3) pa_nil)) (pe_and (pe_cmpR op_eq (pv 3) pe_int (nomark _)) (pe_one (qc D_law_as hr (@pa_cons _ _ _ _ _ (pv 2) (@pa_cons _ _ _ _ _ (pv 6) (@pa_cons _ _ _ _ _ (pv 7) (@pa_cons _ _ _ _ _ (@pe_lst _ _ _ _ (@pa_cons _ _ _ _ _ (@pe_tup _ _ _ _ _ (pa_cons pe_str (pa_cons pe_int pa_nil))) (@pa_cons _ _ _ _ _ (@pe_tup _ _ _ _ _ (pa_cons pe_str (pa_cons pe_int pa_nil))) pa_nil rfl) rfl)) pa_nil rfl) rfl) rfl) rfl)))))))))))))))))), ?_⟩
  have o0 : Own H [rScr K a ns] := (Own.nil H).imm ⟨hS, rfl⟩
  -- lines
  refine ⟨_, rfl, a, ns, 0, rfl, hS, by decide, _, _, rfl, rfl, (by show (0 : Int) < 3; decide), _, _, rfl, rfl, _, rfl, ?_, ?_, ?_⟩
  · show -(2 ^ 62) ≤ 1 + cellOf ns 0 % 3
    omega
  · show 1 + cellOf ns 0 % 3 < 2 ^ 62
    omega
  obtain ⟨n3, hn3, b1, b3⟩ : ∃ n3 : Nat, (1 + cellOf ns 0 % 3).toNat = n3 ∧ 1 ≤ n3 ∧ n3 ≤ 3 := ⟨_, rfl, by omega, by omega⟩
  rw [hn3]
  refine comp_range (lo := 0) (n := n3) (fun i ys H' => Same H H' ∧ ∃ zs : List Str, ys = zs.map V.str ∧ zs.length = i ∧ ∀ z ∈ zs, z ∈ lineL) ⟨Same.refl _, [], rfl, rfl, by simp⟩ ?_ (len_small (by omega)) ?_ ?_
  · rintro i ys H' ⟨_, zs, rfl, e, _⟩
    rw [List.length_map]; omega
  · rintro i ys H' hi ⟨s, zs, rfl, e, hz⟩
    dsimp only [tNoIf]
    refine iteT ⟨_, rfl, _, rfl, _, _, rfl, rfl, a, ns, _, rfl, (o0.same s).scr (i := 0) rfl, by omega, _, rfl, fun z H2 hz2 s2 => ⟨s.trans s2, zs ++ [z], by simp, by simp [e], fun y hy => ?_⟩⟩
    rcases List.mem_append.mp hy with m | m
    · exact hz y m
    · rw [List.mem_singleton.mp m]; exact hz2
  rintro ys H' ⟨s, ls, rfl, hll, hlm⟩ l0 hl0
  have o1 : Own (upd H' l0 (.lst (ls.map V.str))) [rLst l0 (ls.map V.str), rScr K a ns] := (o0.same s).new hl0 ⟨upd_same, rfl⟩
  generalize upd H' l0 (.lst (ls.map V.str)) = H1 at o1 ⊢
  -- house = House(9, 2)
  refine fun x dx nx ndx nex => ?_
  refine ⟨x, dx, 9, 2, rfl, upd_same, by decide, by decide, fun A2 H2 hh2 fr2 tu2 gr2 => ⟨rfl, ?_⟩⟩
  have o2 : Own H2 [rHouse C x ⟨9, [.non, .non], 0, [], e4, e4⟩, rLst l0 (ls.map V.str), rScr K a ns] := by
    have fr0 : Frame [] H1 H2 := fun b o z _ => by
      have n1 : b ≠ x := ne_of_none z nx
      exact fr2 _ _ (kp_p (kp_n z ndx) n1) (by simpa using n1)
    refine o1.houseNew hh2 fr0 fun b hb => ?_
    rcases gr2 b hb with z | z
    · have z : b = x := by simpa using z
      rw [z]; exact nx
    · exact un_p (un_p z)
  -- house.make("weak", 1, 1)
  have es : sizeOf "weak" 1 = 1 := by unfold sizeOf; rw [if_pos rfl]
  obtain ⟨A3, hh3, fin3⟩ := o2.houseOut (i := 0) (C := C) rfl
  refine ⟨_, rfl, x, A3.dx, _, rfl, hh3.ob, hf_none, x, A3, _, "weak", 1, 1, rfl, hh3, by rw [es]; decide, by rw [es]; decide, by decide, by decide, by decide, fun A4 H4 hh4 fr4 tu4 gr4 => ?_⟩
  have o4 : Own H4 [rHouse C x ⟨9, [.non, .box 1], 1, [w0], e4, e4⟩, rLst l0 (ls.map V.str), rScr K a ns] := fin3 A4 H4 _ hh4 fr4 tu4 gr4
  have hne : ls ≠ [] := fun e => by rw [e] at hll; simp at hll; omega
  clear hh4 fr4 tu4 gr4 fin3 hh3 o2 hh2 fr2 tu2 gr2 o1
  -- try
  refine ⟨fun c _ H' => Same H4 H' ∧ noteOf (Txt.join "\n" ls) = none ∧ c = .ref C_7, fun D H' z => by injection z.2.2 with z; subst z; exact Z.mat _ (by simp), ?_, ?_⟩
  case' refine_1 =>
    obtain ⟨A5, hh5, fin5⟩ := o4.houseOut (i := 0) (C := C) rfl
    have hl4 := o4.lst (i := 1) rfl
    refine ⟨_, rfl, rfl, _, rfl, _, l0, ls, rfl, rfl, hl4, note_join (by omega) hlm, x, A5, _, _, 0, rfl, hh5, by decide, note_ok hne (by omega) hlm, fun rows e => ?_, fun e H' s => ⟨s, e, rfl⟩⟩
    rw [note_of hne hlm] at e
    have rlen := allOf_len e
    refine ⟨fun z => ?_, fun r hr1 => ?_, ?_, ?_, fun A6 H6 hh6 fr6 tu6 gr6 => ?_⟩
    · rw [z] at rlen; simp at rlen; omega
    · obtain ⟨z, hz, er⟩ := allOf_mem e hr1
      obtain ⟨_, _, g1, g2⟩ := agree_some (line_agree (hlm z hz) (by omega) (by omega)) er
      exact ⟨by omega, by rw [rlen]; exact g2⟩
    · show 1 + rows.length ≤ 900
      omega
    · show ((1 : Nat) : Int) + rows.length ≤ 9
      omega
    have o6 : Own H6 [rHouse C x (HS.gave ⟨9, [.non, .box 1], 1, [w0], e4, e4⟩ rows 0), rLst l0 (ls.map V.str), rScr K a ns] := fin5 A6 H6 _ hh6 fr6 tu6 gr6
    have hl6 := o6.lst (i := 1) rfl
    clear fin5 fr6 tu6 gr6 hh5 o4
    -- rows
    refine ⟨_, rfl, l0, rfl, ⟨_, SqL.of hl6⟩, ?_⟩
    refine comp_rows hl6 (by omega) (fun z H' Q' hz s k0 k1 => ?_) fun ra vs H7 s7 hra hv hp => ?_
    · exact ⟨_, rfl, _, rfl, l0, _, rfl, .inl (SqL.of (s _ _ hl6)), z, _, 2, rfl, (line_facts (hlm z hz)).2.2.2.2.1, fun e => k0 (by rw [List.length_map] at e; exact e), fun ts e => k1 ts (by rw [List.length_map] at e; exact e)⟩
    -- kinds, fields
    refine fun ak hak => ⟨upd_same, [(Sum.inl 1, .str "weak")], rfl, by decide, ?_⟩
    rw [mk1]
    have s8 : Same H7 (upd (upd H7 ak (.dK [])) ak (.dK (kindsD [w0]))) := Same.two hak
    have k8 : (upd (upd H7 ak (.dK [])) ak (.dK (kindsD [w0]))) ak = some (.dK (kindsD [w0])) := upd_same
    generalize upd (upd H7 ak (.dK [])) ak (.dK (kindsD [w0])) = H8 at s8 k8 ⊢
    refine fun ar har => ⟨zl, fun f0 hf0 => ⟨kp_n upd_same hf0, [(Sum.inl 1, .ref f0)], rfl, by show 1 ≤ 15; decide, ?_⟩⟩
    rw [mk2]
    obtain ⟨s9, f9⟩ := fields_new har hf0
    have r9 : (upd (upd (upd H8 ar (.dK [])) f0 (.lst [.non])) ar (.dK (fieldsD [w0] [f0]))) ar = some (.dK (fieldsD [w0] [f0])) := upd_same
    generalize upd (upd (upd H8 ar (.dK [])) f0 (.lst [.non])) ar (.dK (fieldsD [w0] [f0])) = H9 at s9 f9 r9 ⊢
    have k9 := s9 _ _ k8
    have s79 := s8.trans s9
    have nkr : ak ≠ ar := fun e => by rw [e, har] at k8; cases k8
    have hp9 := pr_imp (fun _ _ _ _ z => z.same s79) hp
    have hv9 := s79 _ _ hv
    have hh7 := hh6.same s7
    have okf := off_foot hh7 hak
    have orf := off_foot (hh7.same s8) har
    have of0 := off_foot ((hh7.same s8).new (o := .dK []) har) hf0
    have good : (ls.any fun z => decide (rowL ls.length 2 z = none)) = false := by
      rw [List.any_eq_false]
      intro z hz hd
      obtain ⟨j, hj⟩ := List.getElem?_of_mem hz
      obtain ⟨r, _, er⟩ := allOf_get e hj
      have := (agree_some (line_agree (hlm z hz) (by omega) (by omega)) er).1
      rw [of_decide_eq_true hd] at this
      cases this
    refine ⟨_, rfl, ra, vs, rfl, rfl, hv9, rowV_lists hp9, _, rfl, ?_⟩
    rw [rowV_any hp9, good]
    refine iteF ?_
    obtain ⟨as, evs, hpa⟩ := rowV_refs hp9 fun z hz en => by
      have := (List.any_eq_false.mp good) z hz
      exact this (decide_eq_true en)
    subst evs
    obtain ⟨hrow, hkd⟩ := rows_boxes (by omega) (by omega) hlm e hpa
    have tl : TailAt C H9 x A6 (HS.gave ⟨9, [.non, .box 1], 1, [w0], e4, e4⟩ rows 0) ls as (newB 1 rows) l0 ra ak ar f0 := ⟨hh7.same s79, rfl, rfl, (s7.trans s79) _ _ hl6, hv9, hrow, hkd, by rw [newB_len, rlen], by rw [newB_len]; omega, k9, r9, ⟨_, f9, .cons rfl .nil⟩, okf, orf, nkr⟩
    generalize newB 1 rows = nb at tl
    generalize HS.gave ⟨9, [.non, .box 1], 1, [w0], e4, e4⟩ rows 0 = S9 at tl
    generalize A6 = A9 at tl
    clear hrow hkd hpa hp9 hv9 hp hv hh7 okf orf k9 r9 f9
  case' refine_2 =>
    rintro ex D H5 hn5 ⟨s5, hnone, hD⟩
    injection hD with hD
    subst hD
    have hDm : D ∈ [C_0, C_1, C_2, C_3, C_4, C_5, C_6, D] := by simp
    have hi := Z.isi D hDm
    have oD := Z.one D hDm
    have hex6 : (upd H5 ex (ExcO ex D)) ex = some (ExcO ex D) := upd_same
    have o6 := o4.same (s5.trans (Same.new (o := ExcO ex D) hn5))
    generalize upd H5 ex (ExcO ex D) = H6 at hex6 o6 ⊢
    obtain ⟨A6, hh6⟩ := o6.house (i := 0) (C := C) rfl
    have hl6 := o6.lst (i := 1) rfl
    clear o4 s5 hn5
    -- rows
    refine ⟨_, rfl, l0, rfl, ⟨_, SqL.of hl6⟩, ?_⟩
    refine comp_rows hl6 (by omega) (fun z H' Q' hz s k0 k1 => ?_) fun ra vs H7 s7 hra hv hp => ?_
    · exact ⟨_, rfl, _, rfl, l0, _, rfl, .inl (SqL.of (s _ _ hl6)), z, _, 2, rfl, (line_facts (hlm z hz)).2.2.2.2.1, fun e => k0 (by rw [List.length_map] at e; exact e), fun ts e => k1 ts (by rw [List.length_map] at e; exact e)⟩
    -- kinds, fields
    refine fun ak hak => ⟨upd_same, [(Sum.inl 1, .str "weak")], rfl, by decide, ?_⟩
    rw [mk1]
    have s8 : Same H7 (upd (upd H7 ak (.dK [])) ak (.dK (kindsD [w0]))) := Same.two hak
    have k8 : (upd (upd H7 ak (.dK [])) ak (.dK (kindsD [w0]))) ak = some (.dK (kindsD [w0])) := upd_same
    generalize upd (upd H7 ak (.dK [])) ak (.dK (kindsD [w0])) = H8 at s8 k8 ⊢
    refine fun ar har => ⟨zl, fun f0 hf0 => ⟨kp_n upd_same hf0, [(Sum.inl 1, .ref f0)], rfl, by show 1 ≤ 15; decide, ?_⟩⟩
    rw [mk2]
    obtain ⟨s9, f9⟩ := fields_new har hf0
    have r9 : (upd (upd (upd H8 ar (.dK [])) f0 (.lst [.non])) ar (.dK (fieldsD [w0] [f0]))) ar = some (.dK (fieldsD [w0] [f0])) := upd_same
    generalize upd (upd (upd H8 ar (.dK [])) f0 (.lst [.non])) ar (.dK (fieldsD [w0] [f0])) = H9 at s9 f9 r9 ⊢
    have k9 := s9 _ _ k8
    have s79 := s8.trans s9
    have nkr : ak ≠ ar := fun e => by rw [e, har] at k8; cases k8
    have hp9 := pr_imp (fun _ _ _ _ z => z.same s79) hp
    have hv9 := s79 _ _ hv
    have hh7 := hh6.same s7
    have okf := off_foot hh7 hak
    have orf := off_foot (hh7.same s8) har
    have of0 := off_foot ((hh7.same s8).new (o := .dK []) har) hf0
    have bad : (ls.any fun z => decide (rowL ls.length 2 z = none)) = true := by
      cases eb : ls.any fun z => decide (rowL ls.length 2 z = none) with
      | true => rfl
      | false =>
        rw [note_of hne hlm] at hnone
        refine absurd hnone (allOf_ne fun z hz en => ?_)
        exact (List.any_eq_false.mp eb) z hz (decide_eq_true (agree_none (line_agree (hlm z hz) (by omega) (by omega)) en))
    refine ⟨_, rfl, ra, vs, rfl, rfl, hv9, rowV_lists hp9, _, rfl, ?_⟩
    rw [rowV_any hp9, bad]
    refine iteT ?_
    have hh9 := hh7.same s79
    have hex9 := (s7.trans s79) _ _ hex6
    -- the refusal by itself
    refine ⟨_, rfl, ex, D, _, _, _, rfl, hex9, hi, rfl, oD D (by simp), _, rfl, ?_⟩
    rw [beq_self_eq_true]
    refine iteF ⟨_, rfl, ex, D, rfl, hex9, hDm, fun H10 s10 => ⟨_, rfl, iteF ?_⟩⟩
    -- the house is as it was
    have h0t : ThL H10 [.non] f0 := ⟨_, s10 _ _ f9, .cons rfl .nil⟩
    refine ⟨_, rfl, _, rfl, _, rfl, zl, fun t1 ht1 => ⟨zl, fun l1 hl1 => ?_⟩⟩
    have s11 : Same H10 (upd (upd H10 t1 (.tup [.str "box", .int 1])) l1 (.lst [.non, .ref t1])) := (Same.new ht1).trans (Same.new hl1)
    have l11 : ThL (upd (upd H10 t1 (.tup [.str "box", .int 1])) l1 (.lst [.non, .ref t1])) [.non, .box 1] l1 := ⟨_, upd_same, .cons rfl (.cons ⟨t1, rfl, kp_n upd_same hl1⟩ .nil)⟩
    generalize upd (upd H10 t1 (.tup [.str "box", .int 1])) l1 (.lst [.non, .ref t1]) = H11 at s11 l11 ⊢
    have sA := s10.trans s11
    refine ⟨x, ak, ar, l1, A6, _, [f0], rfl, hh9.same sA, sA _ _ k9, sA _ _ r9, .cons (h0t.keep (Tups.of_same s11) (by obtain ⟨vs, z, _⟩ := h0t; rw [z]; exact s11 _ _ z)) .nil, l11, by decide, fun H12 s12 => ⟨_, rfl, iteF ?_⟩⟩
    have sB := sA.trans s12
    have hh12 := hh9.same sB
    have k12 := sB _ _ k9
    have r12 := sB _ _ r9
    have f12 := sB _ _ f9
    clear sA s10 s11 s12 l11 hh9 k9 r9 f9 h0t hex9 hp9 hv9 hp hv hl6
    -- lines, rows, read
    refine ⟨zl, fun l0 hl0 => ?_⟩
    have hh13 := hh12.new (o := .lst [.str "pair #0 -7"]) hl0
    have s13 : Same H12 (upd H12 l0 (.lst [.str "pair #0 -7"])) := Same.new hl0
    have l13 : (upd H12 l0 (.lst [.str "pair #0 -7"])) l0 = some (.lst [.str "pair #0 -7"]) := upd_same
    have ol0 := off_foot hh12 hl0
    generalize upd H12 l0 (.lst [.str "pair #0 -7"]) = H13 at hh13 s13 l13 ⊢
    refine ⟨zl, fun t2 ht2 => ⟨_, rfl, zl, fun a1 ha1 => ⟨zl, fun ra hra => ?_⟩⟩⟩
    have hh14 := ((hh13.new (o := .tup [.str "box", .int 2]) ht2).new (o := .lst [.ref t2, .int (-7)]) ha1)
    have oa1 := off_foot (hh13.new (o := .tup [.str "box", .int 2]) ht2) ha1
    have ora := off_foot hh14 hra
    have hh15 := hh14.new (o := .lst [.ref a1]) hra
    have s15 : Same H13 (upd (upd (upd H13 t2 (.tup [.str "box", .int 2])) a1 (.lst [.ref t2, .int (-7)])) ra (.lst [.ref a1])) := ((Same.new ht2).trans (Same.new ha1)).trans (Same.new hra)
    have t15 : (upd (upd (upd H13 t2 (.tup [.str "box", .int 2])) a1 (.lst [.ref t2, .int (-7)])) ra (.lst [.ref a1])) t2 = some (.tup [.str "box", .int 2]) := kp_n (kp_n upd_same ha1) hra
    have a15 : (upd (upd (upd H13 t2 (.tup [.str "box", .int 2])) a1 (.lst [.ref t2, .int (-7)])) ra (.lst [.ref a1])) a1 = some (.lst [.ref t2, .int (-7)]) := kp_n upd_same hra
    have r15 : (upd (upd (upd H13 t2 (.tup [.str "box", .int 2])) a1 (.lst [.ref t2, .int (-7)])) ra (.lst [.ref a1])) ra = some (.lst [.ref a1]) := upd_same
    generalize upd (upd (upd H13 t2 (.tup [.str "box", .int 2])) a1 (.lst [.ref t2, .int (-7)])) ra (.lst [.ref a1]) = H15 at hh15 s15 t15 a15 r15 ⊢
    have sC := s13.trans s15
    have hno := pair_note
    refine ⟨_, rfl, x, A6, _, _, 0, rfl, hh15, by decide, by decide +kernel, fun rows e => ?_, fun e => ?_⟩
    case' refine_2 =>
      rw [hno] at e
      cases e
    rw [hno] at e
    have e := (Option.some.inj e).symm
    subst e
    refine ⟨by simp, fun r hr1 => ?_, by decide, by decide, fun A9 H9 hh9 fr9 tu9 gr9 => ?_⟩
    · obtain rfl := List.mem_singleton.mp hr1
      refine ⟨by decide, fun n' hn' => ?_⟩
      have hn' : n' = 0 := by simpa [pairRow] using hn'
      subst hn'
      decide
    have off9 : ∀ {b : Addr} {o : HO}, H15 b = some o → b ∉ A6.foot x → b ∉ A9.foot x := fun {b o} h n m => by
      rcases gr9 b m with z | z
      · exact n z
      · rw [h] at z; cases z
    have k15 := sC _ _ k12
    have r15' := sC _ _ r12
    have f15 := sC _ _ f12
    have l15 := s15 _ _ l13
    have tl : TailAt C H9 x A9 (HS.gave ⟨9, [.non, .box 1], 1, [w0], e4, e4⟩ [pairRow] 0) [Str.ofString "pair #0 -7"] [a1] (newB 1 [pairRow]) l0 ra ak ar f0 := by
      refine ⟨hh9, rfl, rfl, fr9 _ _ l15 ol0, fr9 _ _ r15 ora, ?_, ?_, rfl, by decide, fr9 _ _ k15 okf, fr9 _ _ r15' orf, ⟨_, fr9 _ _ f15 of0, .cons rfl .nil⟩, off9 k15 okf, off9 r15' orf, nkr⟩
      · rw [pair_new]
        exact .cons ⟨_, fr9 _ _ a15 oa1, .cons ⟨t2, rfl, tu9 _ _ t15⟩ (.cons rfl .nil)⟩ .nil
      · exact pair_kd
    generalize newB 1 [pairRow] = nb at tl
    generalize HS.gave ⟨9, [.non, .box 1], 1, [w0], e4, e4⟩ [pairRow] 0 = S9 at tl
    obtain ⟨ls, hls⟩ : ∃ ls : List Str, ls = [Str.ofString "pair #0 -7"] := ⟨_, rfl⟩
    obtain ⟨as, has⟩ : ∃ as : List Addr, as = [a1] := ⟨_, rfl⟩
    rw [← hls, ← has] at tl
    clear hls has
  all_goals
    have alen : (as.map V.ref).length = nb.length := by rw [List.length_map]; exact (pr_len tl.rows).symm
    have few := tl.few
    refine ⟨_, rfl, ra, _, rfl, .inl (SqL.of tl.hr), _, rfl, ?_, ?_, ?_⟩
    · show -(2 ^ 62) ≤ ((as.map V.ref).length : Int)
      omega
    · show ((as.map V.ref).length : Int) < 2 ^ 62
      omega
    rw [show (((as.map V.ref).length : Nat) : Int).toNat = nb.length by omega]
    refine for_range (n := nb.length) (fun i σ H' => ∃ v_e v_k, σ = [some (.ref a), some (.ref l0), some (.ref x), some (.int 2), v_e, some (.ref ra), some (.ref ak), some (.ref ar), some (.int 2), v_k] ∧ Fr2 ak ar H9 H' ∧
      H' ak = some (.dK (kindsD (w0 :: nb.take i))) ∧ H' ar = some (.dK (fieldsD (w0 :: nb.take i) (f0 :: as.take i)))) ?_ ?_ ?_
    · exact ⟨_, _, rfl, fun b o h _ _ => h, tl.hk, tl.hf⟩
    · rintro i σ H2 hi ⟨v1, v2, rfl, f2, hk2, hf2⟩
      obtain ⟨b, hb⟩ : ∃ b, nb[i]? = some b := ⟨_, List.getElem?_eq_getElem hi⟩
      obtain ⟨z, hz⟩ : ∃ z, ls[i]? = some z := ⟨_, List.getElem?_eq_getElem (by rw [tl.ll]; exact hi)⟩
      obtain ⟨ai, hai, _⟩ := pr_get tl.rows hb
      obtain ⟨hhd, hz60, hbn⟩ := tl.kd i b z hb hz
      obtain ⟨r, es⟩ : ∃ r, Txt.split z " " = b.kind :: r := by
        cases e : Txt.split z " " with
        | nil => rw [e] at hhd; cases hhd
        | cons y r => rw [e] at hhd; cases hhd; exact ⟨r, rfl⟩
      have hl2 := f2 _ _ tl.hl (ne_of tl.hl tl.hk (by intro q; cases q)) (ne_of tl.hl tl.hf (by intro q; cases q))
      have hr2 := f2 _ _ tl.hr (ne_of tl.hr tl.hk (by intro q; cases q)) (ne_of tl.hr tl.hf (by intro q; cases q))
      have tk : nb.take (i + 1) = nb.take i ++ [b] := by rw [List.take_add_one, hb]; rfl
      have tka : as.take (i + 1) = as.take i ++ [ai] := by rw [List.take_add_one, hai]; rfl
      have fresh : b.name ∉ (w0 :: nb.take i).map (·.name) := fun m => by
        rw [List.map_cons] at m
        rcases List.mem_cons.mp m with m | m
        · have m : b.name = 1 := m
          omega
        · obtain ⟨b', hb', e⟩ := List.mem_map.mp m
          obtain ⟨j, hj⟩ := List.getElem?_of_mem hb'
          have hjl := (List.getElem?_eq_some_iff.mp hj).1
          rw [List.length_take] at hjl
          rw [List.getElem?_take_of_lt (by omega)] at hj
          obtain ⟨z', hz'⟩ : ∃ z', ls[j]? = some z' := ⟨_, List.getElem?_eq_getElem (by rw [tl.ll]; omega)⟩
          have := (tl.kd j b' z' hj hz').2.2
          omega
      have ekey : (2 : Int) + (0 + (i : Int)) = b.name := by omega
      have aseq : as.length = nb.length := (pr_len tl.rows).symm
      refine ⟨_, rfl, _, rfl, l0, _, _, .str z, rfl, rfl, SqL.of hl2, ?_, ?_⟩
      · rw [Int.zero_add]
        exact atI_nat (by rw [List.getElem?_map, hz]; rfl)
      refine ⟨rfl, _, _, rfl, rfl, by decide +kernel, Nat.le_trans (show z.length + 2 ≤ 62 by omega) (by decide), fun l5 hl5 => ?_⟩
      rw [es]
      refine ⟨l5, _, 0, .str b.kind, rfl, rfl, SqL.of upd_same, atI_nat (j := 0) rfl, ?_⟩
      refine ⟨_, rfl, _, rfl, _, rfl, _, _, rfl, rfl, ak, _, rfl, DPut.k (k := Sum.inl (2 + (0 + (i : Int)))) (kp_n hk2 hl5) (by rw [kindsD, List.length_map, List.length_cons, List.length_take]; exact small1000 (by omega)), ?_⟩
      rw [show putK (kindsD (w0 :: nb.take i)) (Sum.inl (2 + (0 + (i : Int))) : Key) (V.str b.kind) = kindsD (w0 :: nb.take (i + 1)) by rw [ekey, kindsD_put fresh, tk]; rfl]
      have f4 : Fr2 ak ar H9 (upd (upd H2 l5 (.lst ((b.kind :: r).map V.str))) ak (.dK (kindsD (w0 :: nb.take (i + 1))))) := f2.trans fun c o h n1 _ => by rw [upd_ne n1]; exact kp_n h hl5
      have k4 : (upd (upd H2 l5 (.lst ((b.kind :: r).map V.str))) ak (.dK (kindsD (w0 :: nb.take (i + 1))))) ak = some (.dK (kindsD (w0 :: nb.take (i + 1)))) := upd_same
      have g4 : (upd (upd H2 l5 (.lst ((b.kind :: r).map V.str))) ak (.dK (kindsD (w0 :: nb.take (i + 1))))) ar = some (.dK (fieldsD (w0 :: nb.take i) (f0 :: as.take i))) := by rw [upd_ne tl.ne.symm]; exact kp_n hf2 hl5
      generalize upd (upd H2 l5 (.lst ((b.kind :: r).map V.str))) ak (.dK (kindsD (w0 :: nb.take (i + 1)))) = H4 at f4 k4 g4 ⊢
      have hr4 := f4 _ _ tl.hr (ne_of tl.hr tl.hk (by intro q; cases q)) (ne_of tl.hr tl.hf (by intro q; cases q))
      refine ⟨_, rfl, _, rfl, ra, _, _, .ref ai, rfl, rfl, SqL.of hr4, ?_, ?_⟩
      · rw [Int.zero_add]
        exact atI_nat (by rw [List.getElem?_map, hai]; rfl)
      have ll : (w0 :: nb.take i).length = (f0 :: as.take i).length := by simp [aseq]
      refine ⟨_, rfl, _, rfl, _, rfl, _, _, rfl, rfl, ar, _, rfl, DPut.k (k := Sum.inl (2 + (0 + (i : Int)))) g4 (by rw [fieldsD, List.length_map, List.length_zip, List.length_cons, List.length_take]; exact small1000 (by omega)), ?_⟩
      rw [show putK (fieldsD (w0 :: nb.take i) (f0 :: as.take i)) (Sum.inl (2 + (0 + (i : Int))) : Key) (V.ref ai) = fieldsD (w0 :: nb.take (i + 1)) (f0 :: as.take (i + 1)) by rw [ekey, fieldsD_put ll fresh, tk, tka]; rfl]
      exact ⟨_, _, rfl, f4.trans fun c o h _ n2 => by rw [upd_ne n2]; exact h, by rw [upd_ne tl.ne]; exact k4, upd_same⟩
    · rintro σ H2 ⟨v1, v2, rfl, f2, hk2, hf2⟩
      have aseq : as.length = nb.length := (pr_len tl.rows).symm
      rw [List.take_length] at hk2 hf2
      rw [← aseq, List.take_length] at hf2
      have hh2 := tl.hh.two f2 tl.ok tl.or' tl.hk tl.hf
      have tu2 : Tups H9 H2 := f2.tups tl.hk tl.hf
      have keep : ∀ {ts : List LW.T} {c : Addr}, ThL H9 ts c → ThL H2 ts c := fun {ts c} ⟨vs, h1, h2⟩ => ⟨vs, f2 _ _ h1 (ne_of h1 tl.hk (by intro q; cases q)) (ne_of h1 tl.hf (by intro q; cases q)), Ths.keep tu2 h2⟩
      refine ⟨_, rfl, 2, rfl, _, rfl, iteT ⟨_, rfl, rfl, _, rfl, iteA (decide_eq_true rfl) ?_⟩⟩
      refine ⟨_, rfl, _, rfl, _, rfl, zl, fun t1 ht1 => ⟨zl, fun t2 ht2 => ⟨zl, fun l1 hl1 => ?_⟩⟩⟩
      have s5 : Same H2 (upd (upd (upd H2 t1 (.tup [.str "box", .int 2])) t2 (.tup [.str "box", .int 1])) l1 (.lst [.ref t1, .ref t2])) := ((Same.new ht1).trans (Same.new ht2)).trans (Same.new hl1)
      have l5 : ThL (upd (upd (upd H2 t1 (.tup [.str "box", .int 2])) t2 (.tup [.str "box", .int 1])) l1 (.lst [.ref t1, .ref t2])) [.box 2, .box 1] l1 := ⟨_, upd_same, .cons ⟨t1, rfl, kp_n (kp_n upd_same ht2) hl1⟩ (.cons ⟨t2, rfl, kp_n upd_same hl1⟩ .nil)⟩
      generalize upd (upd (upd H2 t1 (.tup [.str "box", .int 2])) t2 (.tup [.str "box", .int 1])) l1 (.lst [.ref t1, .ref t2]) = H5 at s5 l5 ⊢
      have kk : ∀ {ts : List LW.T} {c : Addr}, ThL H9 ts c → ThL H5 ts c := fun {ts c} h => by
        obtain ⟨vs, h1, h2⟩ := keep h
        exact ⟨vs, s5 _ _ h1, Ths.keep (Tups.of_same s5) h2⟩
      exact ⟨x, ak, ar, l1, A9, S9, f0 :: as, rfl, hh2.same s5, by rw [tl.bx]; exact s5 _ _ hk2, by rw [tl.bx]; exact s5 _ _ hf2, by rw [tl.bx]; exact .cons (kk tl.h0) (pr_imp (fun _ _ _ _ z => kk z) tl.rows), by rw [tl.sl]; exact l5, by rw [tl.bx, List.length_cons]; omega, fun H' _ => q _⟩
end
end LW


/-! The names below are taken, so that the head makes no second form (a twin) of the whole heap at each of its cuts: those forms are not needed, and would be two thirds of the compiled file. -/
def PySem.W.Fast.tw12668667860007492828 : Unit := ()
def PySem.W.Fast.tw11805677431645742958 : Unit := ()
def PySem.W.Fast.tw2649996965714734985 : Unit := ()
def PySem.W.Fast.tw2987686827409998382 : Unit := ()
def PySem.W.Fast.tw9959627952664941733 : Unit := ()
def PySem.W.Fast.tw6572038413235144490 : Unit := ()
def PySem.W.Fast.tw16226237564045874573 : Unit := ()
def PySem.W.Fast.tw6893773566341555219 : Unit := ()
def PySem.W.Fast.tw13825460280222559162 : Unit := ()
def PySem.W.Fast.tw10960989774046576450 : Unit := ()
def PySem.W.Fast.tw8180841226577076474 : Unit := ()
def PySem.W.Fast.tw9675309889435103508 : Unit := ()
def PySem.W.Fast.tw8217409106686218357 : Unit := ()
def PySem.W.Fast.tw12117174286724263151 : Unit := ()
def PySem.W.Fast.tw10924847424425009450 : Unit := ()
def PySem.W.Fast.tw17998310712517917112 : Unit := ()
def PySem.W.Fast.tw18357791059265485933 : Unit := ()
def PySem.W.Fast.tw7445595689282453271 : Unit := ()
def PySem.W.Fast.tw1372346206077816951 : Unit := ()
def PySem.W.Fast.tw14575487161082792287 : Unit := ()
def PySem.W.Fast.tw17159702431305242531 : Unit := ()
def PySem.W.Fast.tw12663792470285601435 : Unit := ()
def PySem.W.Fast.tw17650424631943708421 : Unit := ()
def PySem.W.Fast.tw4255211638951948510 : Unit := ()
def PySem.W.Fast.tw6698680031552484419 : Unit := ()
def PySem.W.Fast.tw10454700542168189980 : Unit := ()
def PySem.W.Fast.tw1614275179254611550 : Unit := ()
def PySem.W.Fast.tw4354971513360553327 : Unit := ()
def PySem.W.Fast.tw15966102598755246357 : Unit := ()
def PySem.W.Fast.tw7582313068524475335 : Unit := ()
def PySem.W.Fast.tw16759779047766847840 : Unit := ()
def PySem.W.Fast.tw16124789656141357325 : Unit := ()
def PySem.W.Fast.tw11170924837703857879 : Unit := ()
def PySem.W.Fast.tw6111646937547888101 : Unit := ()
def PySem.W.Fast.tw18070311787387757952 : Unit := ()
def PySem.W.Fast.tw3765367259559500748 : Unit := ()
def PySem.W.Fast.tw17411023900351446440 : Unit := ()
def PySem.W.Fast.tw3796118576326807893 : Unit := ()
def PySem.W.Fast.tw15369839078579781468 : Unit := ()
def PySem.W.Fast.tw2434929006173304821 : Unit := ()
def PySem.W.Fast.tw6676904075095433550 : Unit := ()
def PySem.W.Fast.tw4575672317404457524 : Unit := ()
def PySem.W.Fast.tw2106271772626211993 : Unit := ()
def PySem.W.Fast.tw18358373817548769007 : Unit := ()
def PySem.W.Fast.tw9758379411976980427 : Unit := ()
def PySem.W.Fast.tw3101926167447067039 : Unit := ()
def PySem.W.Fast.tw15250341956750327577 : Unit := ()
def PySem.W.Fast.tw10004548775156347299 : Unit := ()
def PySem.W.Fast.tw8931334151915267185 : Unit := ()
def PySem.W.Fast.tw3334636371902445085 : Unit := ()
def PySem.W.Fast.tw5192218704178496630 : Unit := ()
namespace LW
open PySem L2 PySem.W
def GD (K : Fg) (x : Str) (st : Stmt) : Prop := ∃ f fd, nsIn K mainGlobals x = some (some (.ref f)) ∧ Fun K x x st f fd
def MD (K : Fg) (C : Addr) (x q : Str) (st : Stmt) : Prop := ∃ f fd, findIn K (.ref C) x = some (some (.ref f)) ∧ isFn K (.ref f) = true ∧ Fun K x q st f fd
section
variable {K : Fg} {x q : Str} {st : Stmt} {f C : Addr} {oc : Value} {od an : Option Addr} {osl : Array (Option Value)} {kV doc pm cdv ct : Value}
theorem gd_mk (a : nsIn K mainGlobals x = some (some (.ref f))) (l : K.lookup f = some ⟨oc, od, .func (fnOf x x (defArgs st) (defBody st) (defScope st) .none kV doc pm an cdv ct), osl⟩) (c : codeIn K cdv x = true) (k : keepIn K (.ref f) = true) : GD K x st := ⟨f, _, a, fun_mk l c k⟩
theorem md_mk (a : findIn K (.ref C) x = some (some (.ref f))) (i : isFn K (.ref f) = true) (l : K.lookup f = some ⟨oc, od, .func (fnOf x q (defArgs st) (defBody st) (defScope st) .none kV doc pm an cdv ct), osl⟩) (c : codeIn K cdv q = true) (k : keepIn K (.ref f) = true) : MD K C x q st := ⟨f, _, a, i, fun_mk l c k⟩
def BO (x q : Str) (st : Stmt) (ps : List Str) : Prop := ∀ (kV doc pm : Value) (an : Option Addr) (cdv ct : Value) (us : List Value), us.length = ps.length → bindArgs (fnOf x q (defArgs st) (defBody st) (defScope st) .none kV doc pm an cdv ct) ⟨us, []⟩ = pure (ps.zip us)
variable {P : Program} {w : World} {mg : Str → Option Value} {base h : Heap} {k : Nat} {ps : List Str} {sp : Sp} {dss : List (List Value)}
theorem one1 {α : Type} {p : α → Prop} {x : α} (h : p x) : ∀ y ∈ [x], p y := fun y hy => by rw [List.mem_singleton.mp hy]; exact h
theorem GD.get (d : GD K x st) (X : K.In h) (G : h.Ns mainGlobals mg) (b : BO x x st ps) (ok : ∀ {f fd}, Fun K x x st f fd → FnOk P w K mg base CX0 k f fd ps sp) : DefOk P w K mg base k x ps sp [[]] := let ⟨f, fd, a, F⟩ := d; ⟨f, fd, mg_of X G a, F.kp, ok F, one1 (F.binds b)⟩
theorem MD.get (d : MD K C x q st) (b : BO x q st ps) (ok : ∀ {f fd}, Fun K x q st f fd → FnOk P w K mg base CX0 k f fd ps sp) : MethOk P w K mg base C k x ps sp [[]] := let ⟨f, fd, a, i, F⟩ := d; ⟨f, fd, ⟨a, i, F.kp⟩, ok F, one1 (F.binds b)⟩
theorem two1 {α : Type} {p : α → Prop} {x z : α} (h : p x) (h2 : p z) : ∀ y ∈ [x, z], p y := fun y hy => by rcases List.mem_cons.mp hy with e | e; (rw [e]; exact h); exact one1 h2 y e
theorem three1 {α : Type} {p : α → Prop} {x z t : α} (h : p x) (h2 : p z) (h3 : p t) : ∀ y ∈ [x, z, t], p y := fun y hy => by rcases List.mem_cons.mp hy with e | e; (rw [e]; exact h); exact two1 h2 h3 y e
def GDd (K : Fg) (x : Str) (st : Stmt) (ds : List Value) : Prop := ∃ f fd, nsIn K mainGlobals x = some (some (.ref f)) ∧ FunD K x x st f fd ds
def MDd (K : Fg) (C : Addr) (x q : Str) (st : Stmt) (ds : List Value) : Prop := ∃ f fd, findIn K (.ref C) x = some (some (.ref f)) ∧ isFn K (.ref f) = true ∧ FunD K x q st f fd ds
def BOd (x q : Str) (st : Stmt) (ds : List Value) (ps : List Str) (es : List Value) : Prop := ∀ (T : Addr) (kV doc pm : Value) (an : Option Addr) (cdv ct : Value) (us : List Value), (us ++ es).length = ps.length → ∃ k : Option (Array Value) → Sem (List (Str × Value)), bindArgs (fnOf x q (defArgs st) (defBody st) (defScope st) (.ref T) kV doc pm an cdv ct) ⟨us, []⟩ = seqItems? (.ref T) >>= k ∧ k (some ds.toArray) = pure (ps.zip (us ++ es))
variable {T : Addr} {n : Nat} {ds : List Value} {o1 : Value} {o2 : Option Addr} {o3 : Array (Option Value)}
theorem gdd_mk (a : nsIn K mainGlobals x = some (some (.ref f))) (l : K.lookup f = some ⟨oc, od, .func (fnOf x x (defArgs st) (defBody st) (defScope st) (.ref T) kV doc pm an cdv ct), osl⟩) (c : codeIn K cdv x = true) (k : keepIn K (.ref f) = true) (t : K.lookup T = some ⟨o1, o2, .seq (List.toArray ds) n, o3⟩) : GDd K x st ds := ⟨f, _, a, funD_mk l c k t rfl⟩
theorem mdd_mk (a : findIn K (.ref C) x = some (some (.ref f))) (i : isFn K (.ref f) = true) (l : K.lookup f = some ⟨oc, od, .func (fnOf x q (defArgs st) (defBody st) (defScope st) (.ref T) kV doc pm an cdv ct), osl⟩) (c : codeIn K cdv q = true) (k : keepIn K (.ref f) = true) (t : K.lookup T = some ⟨o1, o2, .seq (List.toArray ds) n, o3⟩) : MDd K C x q st ds := ⟨f, _, a, i, funD_mk l c k t rfl⟩
theorem GDd.get (d : GDd K x st ds) (X : K.In h) (G : h.Ns mainGlobals mg) (b : ∀ es ∈ dss, BOd x x st ds ps es) (ok : ∀ {f fd}, FunD K x x st f fd ds → FnOk P w K mg base CX0 k f fd ps sp) : DefOk P w K mg base k x ps sp dss := let ⟨f, fd, a, F⟩ := d; ⟨f, fd, mg_of X G a, F.kp, ok F, fun es he => F.binds (b es he)⟩
theorem MDd.get (d : MDd K C x q st ds) (b : ∀ es ∈ dss, BOd x q st ds ps es) (ok : ∀ {f fd}, FunD K x q st f fd ds → FnOk P w K mg base CX0 k f fd ps sp) : MethOk P w K mg base C k x ps sp dss := let ⟨f, fd, a, i, F⟩ := d; ⟨f, fd, ⟨a, i, F.kp⟩, ok F, fun es he => F.binds (b es he)⟩
theorem MDd.make (d : MDd K C "__init__" q st ds) (mk : makesIn K C = true) (kc : keepIn K (.ref C) = true) (b : ∀ es ∈ dss, BOd "__init__" q st ds ps es) (ok : ∀ {f fd}, FunD K "__init__" q st f fd ds → FnOk P w K mg base CX0 k f fd ps sp) : MakeOk P w K mg base C (k + 1) ps sp dss := let ⟨f, fd, a, i, F⟩ := d; ⟨f, fd, k, Nat.le_refl _, ⟨mk, a, i, kc⟩, ok F, fun es he => F.binds (b es he)⟩
theorem DefOk.up {j : Nat} (h : DefOk P w K mg base j x ps sp dss) (e : j ≤ k := by decide) : DefOk P w K mg base k x ps sp dss := h.mono e
theorem MethOk.up {j : Nat} (h : MethOk P w K mg base C j x ps sp dss) (e : j ≤ k := by decide) : MethOk P w K mg base C k x ps sp dss := h.mono e
theorem MakeOk.up {j : Nat} (h : MakeOk P w K mg base C j ps sp dss) (e : j ≤ k := by decide) : MakeOk P w K mg base C k ps sp dss := h.mono e
theorem MD.make (d : MD K C "__init__" q st) (mk : makesIn K C = true) (kc : keepIn K (.ref C) = true) (b : BO "__init__" q st ps) (ok : ∀ {f fd}, Fun K "__init__" q st f fd → FnOk P w K mg base CX0 k f fd ps sp) : MakeOk P w K mg base C (k + 1) ps sp [[]] := let ⟨f, fd, a, i, F⟩ := d; ⟨f, fd, k, Nat.le_refl _, ⟨mk, a, i, kc⟩, ok F, one1 (F.binds b)⟩
theorem GDd.getX (d : GDd K x st ds) (X : K.In h) (G : h.Ns mainGlobals mg) (b : ∀ es ∈ dss, BOd x x st ds ps es) (ok : ∀ {f fd}, FunD K x x st f fd ds → FnOk P w K mg base (CXF P w) k f fd ps sp) : DefX P w K mg base k x ps sp dss := let ⟨f, fd, a, F⟩ := d; ⟨f, fd, mg_of X G a, F.kp, ok F, fun es he => F.binds (b es he)⟩
theorem GD.getX (d : GD K x st) (X : K.In h) (G : h.Ns mainGlobals mg) (b : BO x x st ps) (ok : ∀ {f fd}, Fun K x x st f fd → FnOk P w K mg base (CXF P w) k f fd ps sp) : DefX P w K mg base k x ps sp [[]] := let ⟨f, fd, a, F⟩ := d; ⟨f, fd, mg_of X G a, F.kp, ok F, one1 (F.binds b)⟩
theorem DefX.up {j : Nat} (h : DefX P w K mg base j x ps sp dss) (e : j ≤ k := by decide) : DefX P w K mg base k x ps sp dss := h.mono e
theorem bd2 {x q : Str} {st : Stmt} {ps : List Str} {es ds : List Value} (h : ∀ (T : Addr) (kV doc pm : Value) (an : Option Addr) (cdv ct a0 a1 : Value), ∃ k, bindArgs (fnOf x q (defArgs st) (defBody st) (defScope st) (.ref T) kV doc pm an cdv ct) ⟨[a0, a1], []⟩ = seqItems? (.ref T) >>= k ∧ k (some ds.toArray) = pure (ps.zip ([a0, a1] ++ es)) := by intros; exact ⟨_, rfl, rfl⟩) (e : es.length + 2 = ps.length := by rfl) : BOd x q st ds ps es := fun T kV doc pm an cdv ct us hl => match us, (show us.length = 2 by rw [List.length_append] at hl; omega) with | [a0, a1], _ => h T kV doc pm an cdv ct a0 a1
theorem bd3 {x q : Str} {st : Stmt} {ps : List Str} {es ds : List Value} (h : ∀ (T : Addr) (kV doc pm : Value) (an : Option Addr) (cdv ct a0 a1 a2 : Value), ∃ k, bindArgs (fnOf x q (defArgs st) (defBody st) (defScope st) (.ref T) kV doc pm an cdv ct) ⟨[a0, a1, a2], []⟩ = seqItems? (.ref T) >>= k ∧ k (some ds.toArray) = pure (ps.zip ([a0, a1, a2] ++ es)) := by intros; exact ⟨_, rfl, rfl⟩) (e : es.length + 3 = ps.length := by rfl) : BOd x q st ds ps es := fun T kV doc pm an cdv ct us hl => match us, (show us.length = 3 by rw [List.length_append] at hl; omega) with | [a0, a1, a2], _ => h T kV doc pm an cdv ct a0 a1 a2
theorem bd4 {x q : Str} {st : Stmt} {ps : List Str} {es ds : List Value} (h : ∀ (T : Addr) (kV doc pm : Value) (an : Option Addr) (cdv ct a0 a1 a2 a3 : Value), ∃ k, bindArgs (fnOf x q (defArgs st) (defBody st) (defScope st) (.ref T) kV doc pm an cdv ct) ⟨[a0, a1, a2, a3], []⟩ = seqItems? (.ref T) >>= k ∧ k (some ds.toArray) = pure (ps.zip ([a0, a1, a2, a3] ++ es)) := by intros; exact ⟨_, rfl, rfl⟩) (e : es.length + 4 = ps.length := by rfl) : BOd x q st ds ps es := fun T kV doc pm an cdv ct us hl => match us, (show us.length = 4 by rw [List.length_append] at hl; omega) with | [a0, a1, a2, a3], _ => h T kV doc pm an cdv ct a0 a1 a2 a3
theorem bo1 {x q : Str} {st : Stmt} {p0 : Str} (h : ∀ (kV doc pm : Value) (an : Option Addr) (cdv ct a0 : Value), bindArgs (fnOf x q (defArgs st) (defBody st) (defScope st) .none kV doc pm an cdv ct) ⟨[a0], []⟩ = pure [(p0, a0)] := by intros; rfl) : BO x q st [p0] := fun kV doc pm an cdv ct us hl => match us, hl with | [a0], _ => h kV doc pm an cdv ct a0
theorem bo2 {x q : Str} {st : Stmt} {p0 p1 : Str} (h : ∀ (kV doc pm : Value) (an : Option Addr) (cdv ct a0 a1 : Value), bindArgs (fnOf x q (defArgs st) (defBody st) (defScope st) .none kV doc pm an cdv ct) ⟨[a0, a1], []⟩ = pure [(p0, a0), (p1, a1)] := by intros; rfl) : BO x q st [p0, p1] := fun kV doc pm an cdv ct us hl => match us, hl with | [a0, a1], _ => h kV doc pm an cdv ct a0 a1
theorem bo3 {x q : Str} {st : Stmt} {p0 p1 p2 : Str} (h : ∀ (kV doc pm : Value) (an : Option Addr) (cdv ct a0 a1 a2 : Value), bindArgs (fnOf x q (defArgs st) (defBody st) (defScope st) .none kV doc pm an cdv ct) ⟨[a0, a1, a2], []⟩ = pure [(p0, a0), (p1, a1), (p2, a2)] := by intros; rfl) : BO x q st [p0, p1, p2] := fun kV doc pm an cdv ct us hl => match us, hl with | [a0, a1, a2], _ => h kV doc pm an cdv ct a0 a1 a2
theorem bo4 {x q : Str} {st : Stmt} {p0 p1 p2 p3 : Str} (h : ∀ (kV doc pm : Value) (an : Option Addr) (cdv ct a0 a1 a2 a3 : Value), bindArgs (fnOf x q (defArgs st) (defBody st) (defScope st) .none kV doc pm an cdv ct) ⟨[a0, a1, a2, a3], []⟩ = pure [(p0, a0), (p1, a1), (p2, a2), (p3, a3)] := by intros; rfl) : BO x q st [p0, p1, p2, p3] := fun kV doc pm an cdv ct us hl => match us, hl with | [a0, a1, a2, a3], _ => h kV doc pm an cdv ct a0 a1 a2 a3
end
theorem all_mk {l : OpenLaw} {w : World} {K : Fg} {h : Heap} {mg : Str → Option Value} {fa CHouse x_f_law C_8 C_0 C_1 C_2 C_3 C_4 C_5 C_6 C_7 aF : Addr} (X : K.In h) (G : h.Ns mainGlobals mg) (hfa : mg "law" = some (.ref fa))
    {od_f_law an_f_law : Option Addr} {sl_f_law : Array (Option Value)} {oc_f_law kV_f_law dc_f_law pm_f_law cd_f_law ct_f_law : Value} {t_m_House_init_0 t_m_House_make_0 t_m_House_make_1 t_f_read_0 tg tmf tml tfg tw1 tw2 tw3 tw4 : Tok} {ep0 : Nat}
    {hs1 hs2 : Int}
    (aCHouse : nsIn K mainGlobals "House" = some (some (.ref CHouse)))
    (g_f_law_cell_at : GD K "_law_cell_at" s_f_law_cell_at)
    (g_f_law_line : GD K "_law_line" s_f_law_line)
    (m_m_House_init : MDd K CHouse "__init__" "House.__init__" s_m_House_init [.int 4 t_m_House_init_0])
    (m_m_House_check_slot : MD K CHouse "check_slot" "House.check_slot" s_m_House_check_slot)
    (m_m_House_has_room : MD K CHouse "has_room" "House.has_room" s_m_House_has_room)
    (m_m_House_make_room : MDd K CHouse "make_room" "House.make_room" s_m_House_make_room [.none])
    (g_f_box_name : GD K "box_name" s_f_box_name)
    (g_f_box_thing : GD K "box_thing" s_f_box_thing)
    (g_f_renamed : GD K "renamed" s_f_renamed)
    (m_m_House_build : MD K CHouse "build" "House.build" s_m_House_build)
    (m_m_House_make : MDd K CHouse "make" "House.make" s_m_House_make [.int 0 t_m_House_make_0, .int 0 t_m_House_make_1])
    (g_f_is_number : GD K "is_number" s_f_is_number)
    (g_f_number_in : GD K "number_in" s_f_number_in)
    (g_f_place_in : GD K "place_in" s_f_place_in)
    (g_f_number_below_nought : GD K "number_below_nought" s_f_number_below_nought)
    (g_f_thing_in : GD K "thing_in" s_f_thing_in)
    (g_f_may_have : GD K "may_have" s_f_may_have)
    (g_f_row_in : GD K "row_in" s_f_row_in)
    (g_f_draft_in : GD K "draft_in" s_f_draft_in)
    (g_f_read : GDd K "read" s_f_read [.int 0 t_f_read_0])
    (g_f_law_number : GD K "_law_number" s_f_law_number)
    (g_f_law_due : GD K "_law_due" s_f_law_due)
    (g_f_law_row : GD K "_law_row" s_f_law_row)
    (g_f_law_alone : GD K "_law_alone" s_f_law_alone)
    (g_f_law_whole : GD K "_law_whole" s_f_law_whole)
    (g_f_law_names : GD K "_law_names" s_f_law_names)
    (m_m_House_names : MD K CHouse "names" "House.names" s_m_House_names)
    (m_m_House_check_box : MD K CHouse "check_box" "House.check_box" s_m_House_check_box)
    (m_m_House_size : MD K CHouse "size" "House.size" s_m_House_size)
    (m_m_House_kind : MD K CHouse "kind" "House.kind" s_m_House_kind)
    (g_f_law_same : GD K "_law_same" s_f_law_same)
    (m_m_House_check_field : MD K CHouse "check_field" "House.check_field" s_m_House_check_field)
    (m_m_House_field : MD K CHouse "field" "House.field" s_m_House_field)
    (m_m_House_held : MD K CHouse "held" "House.held" s_m_House_held)
    (g_f_law_as : GD K "_law_as" s_f_law_as)
    (a_f_law : nsIn K mainGlobals "law" = some (some (.ref x_f_law)))
    (l_f_law : K.lookup x_f_law = some ⟨oc_f_law, od_f_law, .func (fnOf "law" "law" (defArgs s_f_law) (defBody s_f_law) (defScope s_f_law) .none kV_f_law dc_f_law pm_f_law an_f_law cd_f_law ct_f_law), sl_f_law⟩)
    (c_f_law : codeIn K cd_f_law "law" = true)
    (k_f_law : keepIn K (.ref x_f_law) = true)
    (pgHouse : plainGet K CHouse Str.empty = true)
    (hdHouse : hasDictIn K CHouse = true)
    (poHouse : plainOver K CHouse = true)
    (saHouse : findIn K (.ref CHouse) "__setattr__" = some (some (.builtin "object.__setattr__")))
    (mkHouse : makesIn K CHouse = true)
    (kcHouse : keepIn K (.ref CHouse) = true)
    (n_House_room : findIn K (.ref CHouse) "room" = some none)
    (n_House_slots : findIn K (.ref CHouse) "slots" = some none)
    (n_House_last_name : findIn K (.ref CHouse) "last_name" = some none)
    (n_House_kinds : findIn K (.ref CHouse) "kinds" = some none)
    (n_House_fields : findIn K (.ref CHouse) "fields" = some none)
    (n_House_queues : findIn K (.ref CHouse) "queues" = some none)
    (n_House_told : findIn K (.ref CHouse) "told" = some none)
    (z_len : nsIn K mainGlobals "len" = some none)
    (z_sorted : nsIn K mainGlobals "sorted" = some none)
    (z_range : nsIn K mainGlobals "range" = some none)
    (z_list : nsIn K mainGlobals "list" = some none)
    (z_isinstance : nsIn K mainGlobals "isinstance" = some none)
    (z_int : nsIn K mainGlobals "int" = some none)
    (z_bool : nsIn K mainGlobals "bool" = some none)
    (z_tuple : nsIn K mainGlobals "tuple" = some none)
    (z_str : nsIn K mainGlobals "str" = some none)
    (z_enumerate : nsIn K mainGlobals "enumerate" = some none)
    (z_zip : nsIn K mainGlobals "zip" = some none)
    (z_all : nsIn K mainGlobals "all" = some none)
    (g_8 : nsIn K mainGlobals "HouseError" = some (some (.ref C_8)))
    (g_0 : nsIn K mainGlobals "NoSlot" = some (some (.ref C_0)))
    (g_1 : nsIn K mainGlobals "NoGuard" = some (some (.ref C_1)))
    (g_2 : nsIn K mainGlobals "NoBox" = some (some (.ref C_2)))
    (g_3 : nsIn K mainGlobals "NoField" = some (some (.ref C_3)))
    (g_4 : nsIn K mainGlobals "NotThere" = some (some (.ref C_4)))
    (g_5 : nsIn K mainGlobals "AlreadyThere" = some (some (.ref C_5)))
    (g_6 : nsIn K mainGlobals "Crowded" = some (some (.ref C_6)))
    (g_7 : nsIn K mainGlobals "NoNote" = some (some (.ref C_7)))
    (z_ValueError : nsIn K mainGlobals "ValueError" = some none)
    (xg : nsIn K mainGlobals "GUARDS" = some (some (.int 4 tg)))
    (xgmf : nsIn K mainGlobals "MOST_FIGURES" = some (some (.int 40 tmf)))
    (xgml : nsIn K mainGlobals "MOST_FIELDS" = some (some (.int 8 tml)))
    (xgfg : nsIn K mainGlobals "FIGURES" = some (some (.str "0123456789" tfg)))
    (xf : nsIn K mainGlobals "FIXED_SIZES" = some (some (.ref aF)))
    (lf : K.lookup aF = some ⟨.type "dict", none, .dict #[⟨hs1, .str "weak" tw1, .int 1 tw2⟩, ⟨hs2, .str "pair" tw3, .int 2 tw4⟩] ep0, #[]⟩)
    (h_1 : hs1 = hashStr w "weak")
    (h_2 : hs2 = hashStr w "pair")
    (h_3 : (aF == sysModules) = false)
    (Z : XC K C_8 [C_0, C_1, C_2, C_3, C_4, C_5, C_6, C_7])
    : ∃ fd : FuncData, (∀ (s : Shared) (v : Value), BindsTo s fd ⟨[v], []⟩ [("script", v)]) ∧ ∀ base : Heap, K.In base → base.Ns mainGlobals mg → FnOk l.prog w K mg base CX0 8 fa fd ["script"] (spLaw K) := by
  have e := hfa.symm.trans (mg_of X G a_f_law)
  cases e
  have F_f_law := fun_mk (st := s_f_law) l_f_law c_f_law k_f_law
  have HT : HTxt K mg CHouse := ⟨⟨pgHouse, hdHouse, poHouse, saHouse⟩, n_House_room, n_House_slots, n_House_last_name, n_House_kinds, n_House_fields, n_House_queues, n_House_told, mg_of X G aCHouse, mg_none_of X G z_len, mg_none_of X G z_sorted, mg_none_of X G z_range, mg_none_of X G z_list, mg_none_of X G z_isinstance, ⟨_, mg_of X G xg⟩⟩
  have T : TX K mg CHouse := { HT with g_int := mg_none_of X G z_int, g_bool := mg_none_of X G z_bool, g_tuple := mg_none_of X G z_tuple, g_str := mg_none_of X G z_str, g_enumerate := mg_none_of X G z_enumerate, s_ib := (by rfl), s_it := (by rfl) }
  refine ⟨fnOf "law" "law" (defArgs s_f_law) (defBody s_f_law) (defScope s_f_law) .none kV_f_law dc_f_law pm_f_law an_f_law cd_f_law ct_f_law, fun s v => .of_eq rfl, fun base _ _ => ?_⟩
  have KD : KDict l.prog w K aF fixed := kdict2 lf h_1 h_2 (by decide +kernel) h_3
  have D_law_cell_at : DefOk l.prog w K mg base 1 "_law_cell_at" _ _ [[]] := g_f_law_cell_at.get X G bo2 fun F => ok_f_law_cell_at (n := 0) F T 
  have D_law_line : DefOk l.prog w K mg base 1 "_law_line" _ _ [[]] := g_f_law_line.get X G bo1 fun F => ok_f_law_line (n := 0) F T 
  have D_House : MakeOk l.prog w K mg base CHouse 2 _ _ [[], [.int 4 t_m_House_init_0]] := m_m_House_init.make mkHouse kcHouse (two1 bd3 bd2) fun F => ok_m_House_init (n := 0) F T 
  have M_check_slot : MethOk l.prog w K mg base CHouse 1 "check_slot" _ _ [[]] := m_m_House_check_slot.get bo2 fun F => ok_m_House_check_slot (n := 0) F T 
  have M_has_room : MethOk l.prog w K mg base CHouse 1 "has_room" _ _ [[]] := m_m_House_has_room.get bo2 fun F => ok_m_House_has_room (n := 0) F T 
  have M_make_room : MethOk l.prog w K mg base CHouse 2 "make_room" _ _ [[], [.none]] := m_m_House_make_room.get (two1 bd3 bd2) fun F => ok_m_House_make_room (n := 1) F T M_has_room.up
  have D_box_name : DefOk l.prog w K mg base 1 "box_name" _ _ [[]] := g_f_box_name.get X G bo1 fun F => ok_f_box_name (n := 0) F T 
  have D_box_thing : DefOk l.prog w K mg base 1 "box_thing" _ _ [[]] := g_f_box_thing.get X G bo1 fun F => ok_f_box_thing (n := 0) F T 
  have D_renamed : DefOk l.prog w K mg base 2 "renamed" _ _ [[]] := g_f_renamed.get X G bo2 fun F => ok_f_renamed (n := 1) F T D_box_name.up D_box_thing.up
  have M_build : MethOk l.prog w K mg base CHouse 3 "build" _ _ [[]] := m_m_House_build.get bo3 fun F => ok_m_House_build (n := 2) F T (mg_none_of X G z_zip) M_has_room.up D_renamed.up D_box_thing.up
  have M_make : MethOk l.prog w K mg base CHouse 4 "make" _ _ [[], [.int 0 t_m_House_make_0, .int 0 t_m_House_make_1], [.int 0 t_m_House_make_1]] := m_m_House_make.get (three1 bd4 bd2 bd3) fun F => ok_m_House_make (n := 3) F T (mg_of X G xf) KD M_check_slot.up M_make_room.up M_build.up
  have D_is_number : DefOk l.prog w K mg base 1 "is_number" _ _ [[]] := g_f_is_number.get X G bo1 fun F => ok_f_is_number (n := 0) F T (mg_of X G xgmf) (mg_of X G xgfg) (mg_none_of X G z_all) 
  have DX_number_in : DefX l.prog w K mg base 2 "number_in" _ _ [[]] := g_f_number_in.getX X G bo1 fun F => ok_f_number_in_e (n := 1) F T (mg_of X G g_7) (Z.exc _ (by simp)) D_is_number.up
  have DX_place_in : DefX l.prog w K mg base 3 "place_in" _ _ [[]] := g_f_place_in.getX X G bo2 fun F => ok_f_place_in_e (n := 2) F T (mg_of X G g_7) (Z.exc _ (by simp)) DX_number_in.up
  have DX_number_below_nought : DefX l.prog w K mg base 3 "number_below_nought" _ _ [[]] := g_f_number_below_nought.getX X G bo1 fun F => ok_f_number_below_nought_e (n := 2) F T (mg_of X G g_7) (Z.exc _ (by simp)) DX_number_in.up
  have DX_thing_in : DefX l.prog w K mg base 4 "thing_in" _ _ [[]] := g_f_thing_in.getX X G bo2 fun F => ok_f_thing_in_e (n := 3) F T D_box_thing.up DX_place_in.up DX_number_below_nought.up DX_number_in.up
  have D_may_have : DefOk l.prog w K mg base 1 "may_have" _ _ [[]] := g_f_may_have.get X G bo2 fun F => ok_f_may_have (n := 0) F T (mg_of X G xgml) (mg_of X G xf) KD 
  have DX_row_in : DefX l.prog w K mg base 5 "row_in" _ _ [[]] := g_f_row_in.getX X G bo2 fun F => ok_f_row_in_e (n := 4) F T (mg_of X G g_7) (Z.exc _ (by simp)) DX_thing_in.up D_may_have.up
  have DX_draft_in : DefX l.prog w K mg base 6 "draft_in" _ _ [[]] := g_f_draft_in.getX X G bo1 fun F => ok_f_draft_in_e (n := 5) F T DX_row_in.up
  have M_build_l : MethOk l.prog w K mg base CHouse 3 "build" _ _ [[]] := m_m_House_build.get bo3 fun F => ok_m_House_build_l (n := 2) F T (mg_none_of X G z_zip) M_has_room.up D_renamed.up D_box_thing.up
  have DX_read : DefX l.prog w K mg base 7 "read" _ _ [[], [.int 0 t_f_read_0]] := g_f_read.getX X G (two1 bd3 bd2) fun F => ok_f_read_e (n := 6) F T M_check_slot.up DX_draft_in.up M_make_room.up M_build_l.up
  have D_law_number : DefOk l.prog w K mg base 1 "_law_number" _ _ [[]] := g_f_law_number.get X G bo1 fun F => ok_f_law_number (n := 0) F T 
  have D_law_due : DefOk l.prog w K mg base 2 "_law_due" _ _ [[]] := g_f_law_due.get X G bo3 fun F => ok_f_law_due (n := 1) F T D_law_number.up
  have D_law_row : DefOk l.prog w K mg base 3 "_law_row" _ _ [[]] := g_f_law_row.get X G bo3 fun F => ok_f_law_row (n := 2) F T D_law_due.up
  have D_law_alone : DefOk l.prog w K mg base 1 "_law_alone" _ _ [[]] := g_f_law_alone.get X G bo1 fun F => ok_f_law_alone (n := 0) F T (mg_none_of X G z_ValueError) (mg_of X G g_8) (mg_of X G g_0) (mg_of X G g_1) (mg_of X G g_2) (mg_of X G g_3) (mg_of X G g_4) (mg_of X G g_5) (mg_of X G g_6) (mg_of X G g_7) Z 
  have D_law_whole : DefOk l.prog w K mg base 1 "_law_whole" _ _ [[]] := g_f_law_whole.get X G bo1 fun F => ok_f_law_whole (n := 0) F T 
  have D_law_names : DefOk l.prog w K mg base 2 "_law_names" _ _ [[]] := g_f_law_names.get X G bo2 fun F => ok_f_law_names (n := 1) F T D_law_whole.up
  have M_names : MethOk l.prog w K mg base CHouse 1 "names" _ _ [[]] := m_m_House_names.get bo1 fun F => ok_m_House_names (n := 0) F T 
  have M_check_box : MethOk l.prog w K mg base CHouse 1 "check_box" _ _ [[]] := m_m_House_check_box.get bo2 fun F => ok_m_House_check_box (n := 0) F T 
  have M_size : MethOk l.prog w K mg base CHouse 2 "size" _ _ [[]] := m_m_House_size.get bo2 fun F => ok_m_House_size (n := 1) F T M_check_box.up
  have M_kind : MethOk l.prog w K mg base CHouse 2 "kind" _ _ [[]] := m_m_House_kind.get bo2 fun F => ok_m_House_kind (n := 1) F T M_check_box.up
  have D_law_same : DefOk l.prog w K mg base 2 "_law_same" _ _ [[]] := g_f_law_same.get X G bo2 fun F => ok_f_law_same (n := 1) F T D_law_whole.up
  have M_check_field : MethOk l.prog w K mg base CHouse 1 "check_field" _ _ [[]] := m_m_House_check_field.get bo3 fun F => ok_m_House_check_field (n := 0) F T 
  have M_field : MethOk l.prog w K mg base CHouse 2 "field" _ _ [[]] := m_m_House_field.get bo3 fun F => ok_m_House_field (n := 1) F T M_check_box.up M_check_field.up
  have M_held : MethOk l.prog w K mg base CHouse 2 "held" _ _ [[]] := m_m_House_held.get bo2 fun F => ok_m_House_held (n := 1) F T M_check_slot.up
  have D_law_as : DefOk l.prog w K mg base 3 "_law_as" _ _ [[]] := g_f_law_as.get X G bo4 fun F => ok_f_law_as (n := 2) F T D_law_names.up M_names.up D_law_whole.up M_size.up M_kind.up D_law_same.up M_field.up M_held.up
  exact ok_f_law (n := 7) F_f_law T (mg_of X G g_8) (mg_of X G g_7) Z D_law_cell_at.up D_law_line.up D_House.up M_make.up DX_read.up D_law_row.up D_law_alone.up D_law_as.up D_law_whole.up
theorem walk {l : OpenLaw} {q : Program} {loose : List Str} {XP : (Str → Option Value) → Heap → Prop} {YP : World → Heap → Prop} {d : DefRec} {K : Params → Fg} (hn : l.most = some 63) (hdf : d.params.defaults = [])
    (hY : ∀ (w : World) (h : Heap), YP w h → (K w.params).In h)
    (F : ∀ (w : World) (mg : Str → Option Value) (fa : Addr) (h : Heap), (K w.params).In h → h.Ns mainGlobals mg → mg d.name = some (.ref fa) →
      ∃ fd : FuncData, (∀ (s : Shared) (u : Value), BindsTo s fd ⟨[u], []⟩ [("script", u)]) ∧ ∀ base : Heap, (K w.params).In base → base.Ns mainGlobals mg → FnOk l.prog w (K w.params) mg base CX0 8 fa fd ["script"] (spLaw (K w.params))) :
    WalkO q loose XP YP l.row.toRowW d [] (fun f vs => PySem.call f vs) :=
  L2.walk_of (n := 63) (k := 8) (x := "script") (CX := fun _ => CX0) (sp := fun w => spLaw (K w.params)) hn (by decide) hdf ⟨rfl, by decide, by decide⟩ hY F (fun _ _ a ns hl hO hS => ⟨a, ns, rfl, Scr.of hO hS, hl, fun _ => rfl⟩) fun _ _ _ _ _ z => z
end LW
open PySem PySem.W PyProof.Rows
set_option maxRecDepth 100000 in
set_option maxHeartbeats 0 in
theorem PySem.Challenge.cw_lastword_k24_read_or_refused_holds : PySem.Challenge.rw_lastword_k24_read_or_refused.Holds := by
  w_on; o_law; k_head; (case hw => w_witness2)
  k_fill
  refine LW.walk (l := PySem.Challenge.rw_lastword_k24_read_or_refused) rfl rfl (fun w h Y => PySem.W.kIn_of Y) ?F
  case F =>
    intro w mg fa h KX G hmg
    refine' LW.all_mk KX G hmg ?aCHouse ?g_f_law_cell_at ?g_f_law_line ?m_m_House_init ?m_m_House_check_slot ?m_m_House_has_room ?m_m_House_make_room ?g_f_box_name ?g_f_box_thing ?g_f_renamed ?m_m_House_build ?m_m_House_make ?g_f_is_number ?g_f_number_in ?g_f_place_in ?g_f_number_below_nought ?g_f_thing_in ?g_f_may_have ?g_f_row_in ?g_f_draft_in ?g_f_read ?g_f_law_number ?g_f_law_due ?g_f_law_row ?g_f_law_alone ?g_f_law_whole ?g_f_law_names ?m_m_House_names ?m_m_House_check_box ?m_m_House_size ?m_m_House_kind ?g_f_law_same ?m_m_House_check_field ?m_m_House_field ?m_m_House_held ?g_f_law_as ?a_f_law ?l_f_law ?c_f_law ?k_f_law ?pgHouse ?hdHouse ?poHouse ?saHouse ?mkHouse ?kcHouse ?n_House_room ?n_House_slots ?n_House_last_name ?n_House_kinds ?n_House_fields ?n_House_queues ?n_House_told ?z_len ?z_sorted ?z_range ?z_list ?z_isinstance ?z_int ?z_bool ?z_tuple ?z_str ?z_enumerate ?z_zip ?z_all ?g_8 ?g_0 ?g_1 ?g_2 ?g_3 ?g_4 ?g_5 ?g_6 ?g_7 ?z_ValueError ?xg ?xgmf ?xgml ?xgfg ?xf ?lf ?h_1 ?h_2 ?h_3 ?Z
    case aCHouse | a_f_law | l_f_law | c_f_law | k_f_law | pgHouse | hdHouse | poHouse | saHouse | mkHouse | kcHouse | n_House_room | n_House_slots | n_House_last_name | n_House_kinds | n_House_fields | n_House_queues | n_House_told | z_len | z_sorted | z_range | z_list | z_isinstance | z_int | z_bool | z_tuple | z_str | z_enumerate | z_zip | z_all | g_8 | g_0 | g_1 | g_2 | g_3 | g_4 | g_5 | g_6 | g_7 | z_ValueError | xg | xgmf | xgml | xgfg | xf | lf => k_is
    case g_f_law_cell_at | g_f_law_line | g_f_box_name | g_f_box_thing | g_f_renamed | g_f_is_number | g_f_number_in | g_f_place_in | g_f_number_below_nought | g_f_thing_in | g_f_may_have | g_f_row_in | g_f_draft_in | g_f_law_number | g_f_law_due | g_f_law_row | g_f_law_alone | g_f_law_whole | g_f_law_names | g_f_law_same | g_f_law_as => exact LW.gd_mk (by k_is) (by k_is) (by k_is) (by k_is)
    case m_m_House_check_slot | m_m_House_has_room | m_m_House_build | m_m_House_names | m_m_House_check_box | m_m_House_size | m_m_House_kind | m_m_House_check_field | m_m_House_field | m_m_House_held => exact LW.md_mk (by k_is) (by k_is) (by k_is) (by k_is) (by k_is)
    case g_f_read => exact LW.gdd_mk (by k_is) (by k_is) (by k_is) (by k_is) (by k_is)
    case m_m_House_init | m_m_House_make_room | m_m_House_make => exact LW.mdd_mk (by k_is) (by k_is) (by k_is) (by k_is) (by k_is) (by k_is)
    case h_1 | h_2 | h_3 => rfl
    case Z =>
      refine ⟨by decide, ?_, ?_, ?_, ?_, ?_, ?_⟩
      · refine LW.m8 ?_ ?_ ?_ ?_ ?_ ?_ ?_ ?_ <;> (show PySem.W.excIn _ _ _ _ = true; k_exc)
      · refine LW.m8 ?_ ?_ ?_ ?_ ?_ ?_ ?_ ?_ <;> exact LW.ExcI.of (by k_is) (by k_is) (by k_is) (by k_is) (by k_is) (by k_is) (by k_is)
      · refine LW.m8 ?_ ?_ ?_ ?_ ?_ ?_ ?_ ?_ <;> refine LW.m8 ?_ ?_ ?_ ?_ ?_ ?_ ?_ ?_ <;> (show PySem.W.kitOne _ _ _ = some _; kit_is)
      · refine LW.m8 ?_ ?_ ?_ ?_ ?_ ?_ ?_ ?_ <;> (show PySem.W.kitOne _ _ _ = some _; kit_is)
      · refine LW.m8 ?_ ?_ ?_ ?_ ?_ ?_ ?_ ?_ <;> (show PySem.W.kitOne _ _ _ = some _; kit_is)
      · refine LW.m8 ?_ ?_ ?_ ?_ ?_ ?_ ?_ ?_ <;> (show PySem.W.exmOne _ _ _ = some _; kts_exm)
#print axioms PySem.Challenge.cw_lastword_k24_read_or_refused_holds

