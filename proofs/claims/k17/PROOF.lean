import PyProof.Rows.All
import Wide.All
import OpenK.AllK
import Wide.FinOn
import Lean
import PyProof.EqAt
import PyProof.EqKinds
import PyProof.TupleCall
import PySem.Challenge.RW_lastword_k17_whole_parted_or_not
set_option Elab.async false
set_option linter.all false
set_option maxRecDepth 100000
set_option maxHeartbeats 4000000
/-! THE HAND LAYER, for ints, bools, texts, own classes, LISTS and tuples (index, slices, in, append, pop ..), calls, loops. Paste it whole ahead of your own text; what your proof does not reach may be deleted. -/
namespace L2
open PySem PySem.Spec PyProof.Rows

/-- a key: an int or a str -/
abbrev Key := Sum Int Str
def keyIs : Key → Value → Bool
  | .inl k, v => Value.isInt k v
  | .inr x, v => Value.isStrOf x v
def keyH (w : World) : Key → Int
  | .inl k => hashInt k
  | .inr x => hashStr w x
theorem keyIs_shape : ∀ {k : Key} {v : Value}, keyIs k v = true → (∃ i t, k = Sum.inl i ∧ v = Value.int i t) ∨ (∃ x t, k = Sum.inr x ∧ v = Value.str x t)
  | .inl i, v, h => by
    obtain ⟨t, e⟩ := Value.isInt_shape (k := i) (v := v) h
    exact .inl ⟨i, t, rfl, e⟩
  | .inr x, v, h => by
    obtain ⟨t, e⟩ := Value.isStrOf_shape (x := x) (v := v) h
    exact .inr ⟨x, t, rfl, e⟩
theorem keyIs_int (i : Int) (t : Tok) : keyIs (.inl i) (.int i t) = true := by simp [keyIs, Value.isInt]
theorem keyIs_str (x : Str) (t : Tok) : keyIs (.inr x) (.str x t) = true := by simp [keyIs, Value.isStrOf]
theorem key_ll (a b : Int) : decide ((Sum.inl a : Key) = Sum.inl b) = (a == b) := by
  by_cases e : a = b
  · subst e; simp
  · have h : ¬ (Sum.inl a : Key) = Sum.inl b := fun q => e (Sum.inl.inj q)
    rw [decide_eq_false h]
    exact (beq_eq_false_iff_ne.mpr e).symm
theorem key_rr (a b : Str) : decide ((Sum.inr a : Key) = Sum.inr b) = decide (a = b) := by
  by_cases e : a = b
  · subst e; simp
  · have h : ¬ (Sum.inr a : Key) = Sum.inr b := fun q => e (Sum.inr.inj q)
    rw [decide_eq_false h, decide_eq_false e]
theorem key_lr (a : Int) (b : Str) : decide ((Sum.inl a : Key) = Sum.inr b) = false := decide_eq_false (fun q => nomatch q)
theorem key_rl (a : Str) (b : Int) : decide ((Sum.inr a : Key) = Sum.inl b) = false := decide_eq_false (fun q => nomatch q)

def mixKind (prog : Program) (w : World) : PySem.KeyKind prog w Key where
  is := keyIs
  hash := keyH w
  inj := fun v a b ha hb => by
    rcases keyIs_shape ha with ⟨i, t, rfl, rfl⟩ | ⟨x, t, rfl, rfl⟩
    · rcases keyIs_shape hb with ⟨j, u, rfl, e⟩ | ⟨y, u, rfl, e⟩
      · injection e with e1 _; rw [e1]
      · exact nomatch e
    · rcases keyIs_shape hb with ⟨j, u, rfl, e⟩ | ⟨y, u, rfl, e⟩
      · exact nomatch e
      · injection e with e1 _; rw [e1]
  byValue := fun k v h => by
    rcases keyIs_shape h with ⟨i, t, rfl, rfl⟩ | ⟨x, t, rfl, rfl⟩ <;> rfl
  pyHash := fun hv h => by
    rcases keyIs_shape hv with ⟨i, t, rfl, rfl⟩ | ⟨x, t, rfl, rfl⟩
    · exact wpAny_pyHash_int h
    · exact wpAny_pyHash_str h
  eqBool := fun hu hv h => by
    rcases keyIs_shape hu with ⟨i, t, rfl, rfl⟩ | ⟨x, t, rfl, rfl⟩
    · rcases keyIs_shape hv with ⟨j, u, rfl, rfl⟩ | ⟨y, u, rfl, rfl⟩
      · rw [key_ll] at h; exact wpAny_eqBool_int h
      · rw [key_lr] at h; exact SeqAt.EqAt.int_str i t y u _ _ _ _ h
    · rcases keyIs_shape hv with ⟨j, u, rfl, rfl⟩ | ⟨y, u, rfl, rfl⟩
      · rw [key_rl] at h; exact SeqAt.EqAt.str_int x t j u _ _ _ _ h
      · rw [key_rr] at h; exact wpAny_eqBool_str h
  «strs» := fun k x t v h => by
    rcases keyIs_shape h with ⟨i, u, rfl, e⟩ | ⟨y, u, rfl, e⟩
    · exact nomatch e
    · injection e with e1 _
      subst e1
      cases v <;> rfl

theorem mixKind_int (prog : Program) (w : World) (i : Int) (t : Tok) : (mixKind prog w).is (.inl i) (.int i t) = true := keyIs_int i t
theorem mixKind_str (prog : Program) (w : World) (x : Str) (t : Tok) : (mixKind prog w).is (.inr x) (.str x t) = true := keyIs_str x t
end L2

namespace L2
open PySem PySem.Spec PyProof.Rows

/-- a value, without the heap -/
inductive V where
  | non | bl (b : Bool) | int (i : Int) | str (x : Str) | byt (b : Array UInt8) | flt (b : UInt64) | ref (a : Addr) | ty (n : String)
  deriving DecidableEq

def RelV : V → Value → Prop
  | .non, u => u = Value.none
  | .bl b, u => u = Value.bool b
  | .int i, u => ∃ t, u = Value.int i t
  | .str x, u => ∃ t, u = Value.str x t
  | .byt b, u => ∃ t, u = Value.bytes b t
  | .flt b, u => ∃ t, u = Value.float b t
  | .ref a, u => u = Value.ref a
  | .ty n, u => u = Value.type n

abbrev Vals : List V → List Value → Prop := Paired RelV
theorem Vals.length {xs : List V} {us : List Value} (r : Vals xs us) : xs.length = us.length := Paired.length r
theorem Vals.get : ∀ {xs : List V} {us : List Value} {i : Nat} {x : V}, Vals xs us → xs[i]? = some x → ∃ u, us[i]? = some u ∧ RelV x u
  | _, _, _, _, .nil, e => by simp at e
  | _, _, 0, _, .cons r _, e => by simp at e; subst e; exact ⟨_, rfl, r⟩
  | _, _, i + 1, x, .cons _ t, e => by
    obtain ⟨u, h1, h2⟩ := Vals.get (i := i) (x := x) t (by simpa using e)
    exact ⟨u, by simpa using h1, h2⟩
theorem Vals.set {x : V} {u : Value} (r : RelV x u) : ∀ {xs : List V} {us : List Value} (i : Nat), Vals xs us → Vals (xs.set i x) (us.set i u)
  | _, _, _, .nil => .nil
  | _, _, 0, .cons _ t => .cons r t
  | _, _, i + 1, .cons q t => .cons q (Vals.set r i t)
theorem Vals.append : ∀ {xs ys : List V} {us ws : List Value}, Vals xs us → Vals ys ws → Vals (xs ++ ys) (us ++ ws)
  | _, _, _, _, .nil, s => s
  | _, _, _, _, .cons r t, s => .cons r (Vals.append t s)
theorem Vals.take : ∀ {xs : List V} {us : List Value} (n : Nat), Vals xs us → Vals (xs.take n) (us.take n)
  | _, _, 0, _ => .nil
  | _, _, _ + 1, .nil => .nil
  | _, _, n + 1, .cons r t => .cons r (Vals.take n t)
theorem Vals.drop : ∀ {xs : List V} {us : List Value} (n : Nat), Vals xs us → Vals (xs.drop n) (us.drop n)
  | _, _, 0, r => r
  | _, _, _ + 1, .nil => .nil
  | _, _, n + 1, .cons _ t => Vals.drop n t
theorem Vals.none_of : ∀ {xs : List V} {us : List Value} {i : Nat}, Vals xs us → xs[i]? = none → us[i]? = none := fun {xs us i} r e => by
  have h1 := r.length
  have h2 : xs.length ≤ i := List.getElem?_eq_none_iff.mp e
  exact List.getElem?_eq_none_iff.mpr (by omega)

def RelO : Option V → Option Value → Prop
  | some v, some u => RelV v u
  | none, none => True
  | _, _ => False
def KV {κ : Type} : List (κ × V) → List (κ × Value) → Prop := Paired fun (p : κ × V) (q : κ × Value) => p.1 = q.1 ∧ RelV p.2 q.2

/-- a key of a dict (00_mix): an int or a text -/
def kV : Key → V
  | .inl i => .int i
  | .inr x => .str x

/-- what stands at a tracked address -/
inductive HO where
  /-- a list -/
  | lst (xs : List V)
  /-- a tuple (never changes) -/
  | tup (xs : List V)
  /-- a dict whose keys are ints and texts; one whose keys are tuples of ints and texts (the empty one is both) -/
  | dK (kvs : List (Key × V)) | dT (kvs : List (List Key × V))
  /-- a set of ints: its members, its size -/
  | set (S : Int → Bool) (n : Nat)
  /-- an instance of the class at C, its dict at dx, its attributes -/
  | ins (C dx : Addr) (fs : List (Str × V))
  /-- the dict of the instance at x -/
  | own (x : Addr)
  /-- the dict of an exception -/
  | xd (fs : List (Str × V))
  /-- a bound method, f of x -/
  | met (f x : Addr)
  /-- a range object lo, lo + 1, .. below hi -/
  | rng (lo hi : Int)
  /-- a thing that is known to the object (the script; a dict while a loop walks it): read, never written while it is so -/
  | frz (o : Obj) (u : HO)
  /-- a code object's table -/
  | tbl (ps : Array Value)
  /-- any other thing, by what is true of its one object (a def of one's own: SetO a S n := HO.ext fun h => ..) -/
  | ext (φ : Heap → Prop)

abbrev Hp := Addr → Option HO
def upd (H : Hp) (a : Addr) (o : HO) : Hp := fun b => if b = a then some o else H b
theorem upd_same {H : Hp} {a : Addr} {o : HO} : upd H a o a = some o := by unfold upd; rw [if_pos rfl]
theorem upd_ne {H : Hp} {a b : Addr} {o : HO} (h : b ≠ a) : upd H a o b = H b := by unfold upd; rw [if_neg h]
/-- two objects of different content stand apart -/
theorem ne_of {H : Hp} {a b : Addr} {o u : HO} (h : H a = some o) (h' : H b = some u) (d : o ≠ u) : a ≠ b := by
  intro e; subst e; rw [h] at h'; exact d (Option.some.inj h')
theorem ne_of_none {H : Hp} {a b : Addr} {o : HO} (h : H a = some o) (h' : H b = none) : a ≠ b := by
  intro e; subst e; rw [h] at h'; cases h'

section
variable (P : Program) (w : World)
def ObjOk (H : Hp) (h : Heap) (a : Addr) : HO → Prop
  | .lst xs => xs.length ≤ sizeLine ∧ ∃ (its : List Value) (n : Nat), Vals xs its ∧ h.get? a = some { cls := .type "list", data := .seq its.toArray n }
  | .tup xs => xs.length ≤ sizeLine ∧ ∃ its : List Value, Vals xs its ∧ IsTup h a its.toArray
  | .dK kvs => kvs.length ≤ sizeLine ∧ (a == sysModules) = false ∧ ∃ vs, KV kvs vs ∧ h.DictOf (mixKind P w) a vs
  | .dT kvs => kvs.length ≤ sizeLine ∧ (a == sysModules) = false ∧ ∃ xs : List (List Key × Addr × Value),
      Paired (fun (p : List Key × V) (q : List Key × Addr × Value) => p.1 = q.1 ∧ H q.2.1 = some (.tup (p.1.map kV)) ∧ RelV p.2 q.2.2) kvs xs ∧
      ∃ o es ep, h.get? a = some o ∧ o.ExactDict ∧ o.data = .dict es ep ∧ es.toList = xs.map (entryOfKey (tupleKind (mixKind P w))) ∧ (xs.map (·.1)).Nodup
  | .set S n => h.SetOf (intKind P w) a S n
  | .ins C dx fs => H dx = some (.own a) ∧ fs.length ≤ 1000 ∧ dx ≠ a ∧ h.get? a = some (PySem.W.instObj C dx) ∧
      ∃ mA, h.Ns1 dx mA ∧ (∀ f, RelO (fs.lookup f) (mA f)) ∧ PySem.Within mA (fs.map (·.1))
  | .own _ => ∃ o, h.get? a = some o
  | .xd fs => ∃ mA, h.Ns1 a mA ∧ ∀ f, RelO (fs.lookup f) (mA f)
  | .rng lo hi => ∃ t u v, h.get? a = some { cls := .type "range", data := .fields #[.int lo t, .int hi u, .int 1 v] }
  | .frz o u => h.get? a = some o ∧ ObjOk H h a u
  | .tbl ps => h.get? a = some { cls := .none, data := .fields ps }
  | .met f x => h.get? a = some (PySem.W.methodObj (.ref f) (.ref x))
  | .ext φ => φ h ∧ (∃ o, h.get? a = some o) ∧ ∀ h1 h2 : Heap, φ h1 → (∀ o, h1.get? a = some o → h2.get? a = some o) → φ h2
/-- the abstract heap is held -/
def HOk (H : Hp) (h : Heap) : Prop := ∀ a o, H a = some o → ObjOk P w H h a o
end

section
variable {P : Program} {w : World} {H H' : Hp} {h h' : Heap} {a : Addr} {o : HO}
theorem ObjOk.lt (x : ObjOk P w H h a o) : a < h.objs.size := by
  cases o with
  | lst xs => obtain ⟨_, _, _, _, e⟩ := x; exact Heap.lt_size e
  | tup xs => obtain ⟨_, _, _, p⟩ := x; exact p.lt
  | dK kvs => obtain ⟨_, _, _, _, o, _, _, e, _⟩ := x; exact Heap.lt_size e
  | dT kvs => obtain ⟨_, _, _, _, o, _, _, e, _⟩ := x; exact Heap.lt_size e
  | set S n => obtain ⟨o, _, _, _, e, _⟩ := x; exact Heap.lt_size e
  | ins C dx fs => obtain ⟨_, _, _, e, _⟩ := x; exact Heap.lt_size e
  | own y => obtain ⟨_, e⟩ := x; exact Heap.lt_size e
  | xd fs => obtain ⟨_, ⟨_, _, _, e, _⟩, _⟩ := x; exact Heap.lt_size e
  | rng lo hi => obtain ⟨_, _, _, e⟩ := x; exact Heap.lt_size e
  | frz ob u => obtain ⟨e, _⟩ := x; exact Heap.lt_size e
  | tbl ps => exact Heap.lt_size (show h.get? a = some _ from x)
  | met f y => exact Heap.lt_size (show h.get? a = some _ from x)
  | ext φ => obtain ⟨_, ⟨_, e⟩, _⟩ := x; exact Heap.lt_size e
theorem Paired.mapP {α β : Type} {F G : α → β → Prop} : ∀ {l₁ : List α} {l₂ : List β}, Paired F l₁ l₂ → (∀ a b, F a b → G a b) → Paired G l₁ l₂
  | _, _, .nil, _ => .nil
  | _, _, .cons r t, f => .cons (f _ _ r) (Paired.mapP t f)
/-- what an object's description leans on: its own object, its own dict, the tuples -/
theorem ObjOk.stay (x : ObjOk P w H h a o) (k : ∀ b u, (b = a ∨ H b = some (.own a)) → h.get? b = some u → h'.get? b = some u)
    (ho : ∀ b, H b = some (.own a) → H' b = some (.own a)) (ht : ∀ b xs, H b = some (.tup xs) → H' b = some (.tup xs)) : ObjOk P w H' h' a o := by
  induction o with
  | lst xs => obtain ⟨z, its, n, r, e⟩ := x; exact ⟨z, its, n, r, k _ _ (.inl rfl) e⟩
  | tup xs => obtain ⟨z, its, r, ob, e, c⟩ := x; exact ⟨z, its, r, ob, k _ _ (.inl rfl) e, c⟩
  | dK kvs => obtain ⟨z, y, vs, r, ob, es, ep, e, c⟩ := x; exact ⟨z, y, vs, r, ob, es, ep, k _ _ (.inl rfl) e, c⟩
  | dT kvs =>
    obtain ⟨z, y, xs, r, ob, es, ep, e, c⟩ := x
    exact ⟨z, y, xs, Paired.mapP r fun p q z => ⟨z.1, ht _ _ z.2.1, z.2.2⟩, ob, es, ep, k _ _ (.inl rfl) e, c⟩
  | set S n => obtain ⟨ob, es, ep, t, e, c⟩ := x; exact ⟨ob, es, ep, t, k _ _ (.inl rfl) e, c⟩
  | ins C dx fs =>
    obtain ⟨d, z, ne, e, mA, ⟨od, es, ep, e2, c⟩, r⟩ := x
    exact ⟨ho _ d, z, ne, k _ _ (.inl rfl) e, mA, ⟨od, es, ep, k _ _ (.inr d) e2, c⟩, r⟩
  | own y => obtain ⟨ob, e⟩ := x; exact ⟨ob, k _ _ (.inl rfl) e⟩
  | xd fs => obtain ⟨mA, ⟨od, es, ep, e, c⟩, r⟩ := x; exact ⟨mA, ⟨od, es, ep, k _ _ (.inl rfl) e, c⟩, r⟩
  | rng lo hi => obtain ⟨t, u, v, e⟩ := x; exact ⟨t, u, v, k _ _ (.inl rfl) e⟩
  | frz ob u ih => obtain ⟨e, q⟩ := x; exact ⟨k _ _ (.inl rfl) e, ih q⟩
  | tbl ps =>
    have e : h.get? a = some { cls := .none, data := .fields ps } := x
    show h'.get? a = some { cls := .none, data := .fields ps }
    exact k a _ (.inl rfl) e
  | met f y =>
    have e : h.get? a = some (PySem.W.methodObj (.ref f) (.ref y)) := x
    show h'.get? a = some (PySem.W.methodObj (.ref f) (.ref y))
    exact k a _ (.inl rfl) e
  | ext φ => obtain ⟨p, ⟨o, e⟩, st⟩ := x; exact ⟨st _ _ p fun o q => k _ _ (.inl rfl) q, ⟨o, k _ _ (.inl rfl) e⟩, st⟩
theorem HOk.lt (x : HOk P w H h) (e : H a = some o) : a < h.objs.size := (x a o e).lt
theorem HOk.fresh (x : HOk P w H h) (e : h.objs.size ≤ a) : H a = none := by
  cases q : H a with
  | none => rfl
  | some u => exact absurd (Nat.lt_of_lt_of_le (x.lt q) e) (Nat.lt_irrefl _)
/-- every object of the heap is kept -/
theorem HOk.kept (x : HOk P w H h) (k : ∀ b u, h.get? b = some u → h'.get? b = some u) : HOk P w H h' := fun a o e =>
  (x a o e).stay (fun b u _ q => k b u q) (fun _ q => q) fun _ _ q => q
/-- a new object is laid and tracked -/
theorem HOk.laid (x : HOk P w H h) (k : ∀ b u, h.get? b = some u → h'.get? b = some u) (hp : h.objs.size ≤ a) (new : ObjOk P w (upd H a o) h' a o) : HOk P w (upd H a o) h' := fun b u e => by
  have hn := x.fresh hp
  by_cases hb : b = a
  · subst hb; rw [upd_same] at e; cases e; exact new
  · rw [upd_ne hb] at e
    exact (x b u e).stay (fun c v _ q => k c v q) (fun c q => by rw [upd_ne (ne_of_none q hn)]; exact q) fun c xs q => by rw [upd_ne (ne_of_none q hn)]; exact q
end

/-- what may be read as u: it is u, or a known u -/
def Rd (H : Hp) (a : Addr) (u : HO) : Prop := H a = some u ∨ ∃ o, H a = some (.frz o u)
theorem Rd.of {H : Hp} {a : Addr} {u : HO} (h : H a = some u) : Rd H a u := .inl h
theorem Rd.ok {P : Program} {w : World} {H : Hp} {h : Heap} {a : Addr} {u : HO} (r : Rd H a u) (x : HOk P w H h) : ObjOk P w H h a u := by
  rcases r with r | ⟨o, r⟩
  · exact x a u r
  · obtain ⟨_, q⟩ := x a _ r
    exact q
/-- what may be written -/
def Mut : Option HO → Prop
  | some (.lst _) => True
  | some (.dK _) => True
  | some (.dT _) => True
  | some (.set _ _) => True
  | some (.ins _ _ _) => True
  | some (.ext _) => True
  | _ => False
section
variable {P : Program} {w : World} {H : Hp} {h h' : Heap} {x e : Addr} {o' : HO}
/-- the object at e is changed: x itself, or the dict of the instance x -/
theorem HOk.write (ok : HOk P w H h) (mu : Mut (H x)) (he : e = x ∨ H e = some (.own x)) (k : ∀ b u, b ≠ e → h.get? b = some u → h'.get? b = some u) (heo : ∃ u, h'.get? e = some u)
    (new : ObjOk P w (upd H x o') h' x o') : HOk P w (upd H x o') h' := fun b u q => by
  have nown : ∀ c y, H c = some (.own y) → c ≠ x := fun c y r z => by subst z; rw [r] at mu; exact mu
  have ntup : ∀ c xs, H c = some (.tup xs) → c ≠ x := fun c xs r z => by subst z; rw [r] at mu; exact mu
  by_cases hb : b = x
  · subst hb; rw [upd_same] at q; cases q; exact new
  · rw [upd_ne hb] at q
    by_cases hbe : b = e
    · have q' : H b = some (.own x) := by
        rcases he with z | z
        · exact absurd (hbe.trans z) hb
        · rw [hbe]; exact z
      rw [q] at q'; cases q'
      obtain ⟨v, hv⟩ := heo
      exact ⟨v, by rw [hbe]; exact hv⟩
    · refine (ok b u q).stay (fun c v hc r => k c v ?_ r) (fun c r => by rw [upd_ne (nown c b r)]; exact r) fun c xs r => by rw [upd_ne (ntup c xs r)]; exact r
      rcases hc with rfl | hc
      · exact hbe
      · rintro rfl
        rcases he with z | z
        · exact nown c b hc z
        · rw [hc] at z; cases z; exact hb rfl
end

/-! ### kept unless tracked; of the frames at fs (the callers') the slots may change (an exception that passes writes there); of the records at ex (iterators) nothing is said -/
structure Un (fs ex : List Addr) (H H' : Hp) (h h' : Heap) : Prop where
  keep : ∀ b o, h.get? b = some o → H b = none → b ∉ fs → b ∉ ex → h'.get? b = some o
  slot : ∀ b o, h.get? b = some o → H b = none → b ∈ fs → b ∉ ex → ∃ sl, h'.get? b = some { o with slots := sl }
  free : ∀ b o, h.get? b = some o → H b = none → b ∉ ex → H' b = none
  there : ∀ b o, h.get? b = some o → b ∉ ex → ∃ o', h'.get? b = some o'
  tups : ∀ b xs, H b = some (.tup xs) → H' b = some (.tup xs)
  frzs : ∀ b o u, H b = some (.frz o u) → H' b = some (.frz o u)
  tbls : ∀ b ps, H b = some (.tbl ps) → ∃ more, H' b = some (.tbl (ps ++ more))
section
variable {fs fs' ex ex' : List Addr} {H H1 H2 : Hp} {h h1 h2 h' : Heap} {a x e : Addr} {o : HO}
theorem Un.any (u : Un fs ex H H1 h h1) {b : Addr} {ob : Obj} (q : h.get? b = some ob) (n : H b = none) (hx : b ∉ ex) : ∃ sl, h1.get? b = some { ob with slots := sl } := by
  by_cases hb : b ∈ fs
  · exact u.slot b ob q n hb hx
  · exact ⟨ob.slots, u.keep b ob q n hb hx⟩
theorem Un.trans (a : Un fs ex H H1 h h1) (b : Un fs ex H1 H2 h1 h2) : Un fs ex H H2 h h2 where
  keep := fun c ob q n hc hx => b.keep c ob (a.keep c ob q n hc hx) (a.free c ob q n hx) hc hx
  slot := fun c ob q n hc hx => by
    obtain ⟨sl, e1⟩ := a.slot c ob q n hc hx
    obtain ⟨sl', e2⟩ := b.slot c _ e1 (a.free c ob q n hx) hc hx
    exact ⟨sl', e2⟩
  free := fun c ob q n hx => by
    obtain ⟨o', e1⟩ := a.there c ob q hx
    exact b.free c o' e1 (a.free c ob q n hx) hx
  there := fun c ob q hx => by
    obtain ⟨o', e1⟩ := a.there c ob q hx
    exact b.there c o' e1 hx
  tups := fun c xs q => b.tups c xs (a.tups c xs q)
  frzs := fun c ob xs q => b.frzs c ob xs (a.frzs c ob xs q)
  tbls := fun c ps q => by
    obtain ⟨m1, e1⟩ := a.tbls c ps q
    obtain ⟨m2, e2⟩ := b.tbls c _ e1
    exact ⟨m1 ++ m2, by rw [e2, Array.append_assoc]⟩
theorem Un.kept (k : ∀ b u, h.get? b = some u → h'.get? b = some u) : Un fs ex H H h h' :=
  ⟨fun b ob q _ _ _ => k b ob q, fun b ob q _ _ _ => ⟨ob.slots, k b ob q⟩, fun _ _ _ n _ => n, fun b ob q _ => ⟨ob, k b ob q⟩, fun _ _ q => q, fun _ _ _ q => q, fun _ ps q => ⟨#[], by rw [q]; simp⟩⟩
theorem Un.refl : Un fs ex H H h h := Un.kept fun _ _ q => q
theorem Un.laid (k : ∀ b u, h.get? b = some u → h'.get? b = some u) (hp : h.objs.size ≤ a) (hn : H a = none) : Un fs ex H (upd H a o) h h' where
  keep := fun b u q _ _ _ => k b u q
  slot := fun b u q _ _ _ => ⟨u.slots, k b u q⟩
  free := fun b u q n _ => by rw [upd_ne (Nat.ne_of_lt (Nat.lt_of_lt_of_le (Heap.lt_size q) hp))]; exact n
  there := fun b u q _ => ⟨u, k b u q⟩
  tups := fun b xs q => by rw [upd_ne (ne_of_none q hn)]; exact q
  frzs := fun b u xs q => by rw [upd_ne (ne_of_none q hn)]; exact q
  tbls := fun b ps q => ⟨#[], by rw [upd_ne (ne_of_none q hn), q]; simp⟩
theorem Un.write (mu : Mut (H x)) (he : e = x ∨ H e = some (.own x)) (k : ∀ b u, b ≠ e → h.get? b = some u → h'.get? b = some u) (heo : ∃ u, h'.get? e = some u) : Un fs ex H (upd H x o) h h' := by
  have hx : ∀ b, H b = none → b ≠ x := fun b n z => by subst z; rw [n] at mu; exact mu
  have hb : ∀ b, H b = none → b ≠ e := fun b n z => by
    subst z
    rcases he with r | r
    · exact hx b n r
    · rw [n] at r; cases r
  have hm : ∀ b u, H b = some u → ¬ Mut (some u) → b ≠ x := fun b u q nm z => by subst z; rw [q] at mu; exact nm mu
  refine ⟨fun b u q n _ _ => k b u (hb b n) q, fun b u q n _ _ => ⟨u.slots, k b u (hb b n) q⟩, fun b u q n _ => by rw [upd_ne (hx b n)]; exact n, fun b u q _ => ?_,
    fun b xs q => by rw [upd_ne (hm b _ q fun z => z)]; exact q, fun b u xs q => by rw [upd_ne (hm b _ q fun z => z)]; exact q, fun b ps q => ⟨#[], by rw [upd_ne (hm b _ q fun z => z), q]; simp⟩⟩
  by_cases hbe : b = e
  · subst hbe; exact heo
  · exact ⟨u, k b u hbe q⟩
theorem Un.mono (u : Un fs ex H H1 h h1) (hs : ∀ b ∈ fs, b ∈ fs') (hx : ∀ b ∈ ex, b ∈ ex') : Un fs' ex' H H1 h h1 :=
  ⟨fun b ob q n hb he => u.keep b ob q n (fun z => hb (hs b z)) fun z => he (hx b z), fun _ _ q n _ he => u.any q n fun z => he (hx _ z), fun b ob q n he => u.free b ob q n fun z => he (hx b z), fun b ob q he => u.there b ob q fun z => he (hx b z), u.tups, u.frzs, u.tbls⟩
end

/-! ### the heap without what is tracked -/
def trk (h : Heap) (H : Hp) : List Addr := (List.range h.objs.size).filter fun a => (H a).isSome
def hidT (h : Heap) (H : Hp) : Heap := PySem.W.hideAll h (trk h H)
theorem hidT_size (h : Heap) (H : Hp) : (hidT h H).objs.size = h.objs.size := PySem.W.hideAll_size _ _
theorem hidT_get {h : Heap} {H : Hp} {b : Addr} {o : Obj} (e : h.get? b = some o) (n : H b = none) : (hidT h H).get? b = some o :=
  PySem.W.hideAll_get _ e fun hm => by
    have q : (H b).isSome = true := (List.mem_filter.mp hm).2
    rw [n] at q; simp at q
theorem of_hidT {h : Heap} {H : Hp} {b : Addr} {o : Obj} (e : (hidT h H).get? b = some o) : h.get? b = some o ∧ H b = none := by
  have e' : h.get? b = some o := PySem.W.of_hideAll (trk h H) e
  refine ⟨e', ?_⟩
  cases q : H b with
  | none => rfl
  | some x =>
    have hm : b ∈ trk h H := List.mem_filter.mpr ⟨List.mem_range.mpr (Heap.lt_size e'), by simp [q]⟩
    have z : (hidT h H).get? b = none := PySem.W.hideAll_none (trk h H) hm
    rw [z] at e; cases e

/-! ### OpenK's ledger, filled with every new object but one -/
def allNews (g h : Heap) (L : Addr) : List (Addr × Obj) := (List.range h.objs.size).filterMap fun a => if a = L ∨ (g.get? a).isSome = true then none else (h.get? a).map fun o => (a, o)
def rest (g h : Heap) (L d : Addr) : List (Addr × Obj) := (allNews g h L).filter fun p => decide (p.1 ≠ d)
end L2

namespace L2
open PySem PySem.Spec PyProof.Rows

/-- the module's facts, over the base: the heap at the law's entry without what is tracked there -/
structure Mod (K : PySem.W.Frag) (mg : Str → Option Value) (base : Heap) : Prop where
  kin : K.In base
  glob : base.Ns mainGlobals mg
  blt : ∃ mb, base.Ns builtinsNs mb ∧ ∀ x : Str, x ≠ "__name__" → mb x = bootBuiltins x
  nolimit : base.NoLimit

/-- the context: a def's body (or a comprehension's block) running. base: fixed through the whole law; s₀, H₀: the entry; outer: the frames whose slots others may change (a def's callers); stack: all frames that run;
   ex: iterators that were made ahead of the entry and are walked here (a comprehension's); fn: the names whose cells were made at the entry (a def: all; a comprehension's block: its own); calm: not within an except suite; pn: pins that every state bears; xe: what is wanted of an exception that leaves the code -/
structure Cx where
  prog : Program
  w : World
  K : PySem.W.Frag
  mg : Str → Option Value
  base : Heap
  A : Around
  N : List Str
  s₀ : Shared
  H₀ : Hp
  env : Env
  outer : List Env
  stack : List Env
  ex : List Addr
  fn : Str → Bool
  calm : Bool
  pn : List (Addr × Obj)
  xe : Value → Shared → Prop
/-- the callers' frames -/
def frs (l : List Env) : List Addr := l.filterMap (·.frame)
abbrev Cx.fs (X : Cx) : List Addr := frs X.outer

def Vis (sc : Scope) (x : Str) : Prop := sc.names.lookup x = some .local ∨ sc.names.lookup x = some .cell ∨ sc.names.lookup x = some .free
def Loc (sc : Scope) (x : Str) : Prop := sc.names.lookup x = some .local ∨ sc.names.lookup x = some .cell
def Look (env : Env) (h : Heap) (m : Str → Option Value) (x : Str) (u : Value) : Prop :=
  (env.kindOf x = some .local ∧ m x = some u) ∨ ((env.kindOf x = some .cell ∨ env.kindOf x = some .free) ∧ ∃ c, env.cells.lookup x = some c ∧ h.IsCell c (some u))

structure Cx.Ok (X : Cx) : Prop where
  mod : Mod X.K X.mg X.base
  kind : X.env.scope.kind = .function
  glob : X.env.globals = mainGlobals
  blt : X.env.builtins = builtinsNs
  above : X.s₀.heap.objs.size ≤ X.env.locals
  inj : ∀ x y c, X.env.cells.lookup x = some c → X.env.cells.lookup y = some c → x = y
  has : ∀ x, (X.env.kindOf x = some .cell ∨ X.env.kindOf x = some .free) → ∃ c, X.env.cells.lookup x = some c
  cab : ∀ x c, X.fn x = true → X.env.cells.lookup x = some c → X.s₀.heap.objs.size ≤ c
  hd : X.calm = true → X.A.handled = none
  frames : X.A.frames = some X.stack
  stk : X.stack = X.outer ∨ (X.stack = X.env :: X.outer ∧ X.env.frame = some X.env.locals)
  exf : ∀ b ∈ X.ex, b ≠ X.env.locals ∧ ∀ x c, X.env.cells.lookup x = some c → c ≠ b
  bs : ∀ b o, X.base.get? b = some o → X.s₀.heap.get? b = some o ∧ X.H₀ b = none
  bsz : X.base.objs.size ≤ X.s₀.heap.objs.size
  noex : ∀ b o, X.base.get? b = some o → b ∉ X.ex
  exfs : ∀ b ∈ X.ex, b ∉ X.fs
  funs : X.s₀.heap.FunFrames X.base X.outer
  frf : ∀ b ∈ X.fs, X.H₀ b = none

structure Inv (X : Cx) (pins : List (Addr × Obj)) (σ : List (Option V)) (H : Hp) (s : Shared) : Prop where
  ok : X.Ok
  os : s.os = X.s₀.os
  bare : AllBare s.gens
  base : Un X.fs X.ex X.H₀ H X.s₀.heap s.heap
  loc : ∃ m, s.heap.Ns X.env.locals m ∧ ∀ (i : Nat) (x : Str) (v : V), X.N[i]? = some x → σ[i]? = some (some v) → Vis X.env.scope x → ∃ u, RelV v u ∧ Look X.env s.heap m x u
  cell : ∀ x c, X.env.cells.lookup x = some c → ∃ v, s.heap.IsCell c v
  free : H X.env.locals = none
  freeC : ∀ x c, X.env.cells.lookup x = some c → H c = none
  pin : ∀ p ∈ X.pn ++ pins, s.heap.get? p.1 = some p.2 ∧ H p.1 = none ∧ p.1 ≠ X.env.locals ∧ p.1 ∉ X.fs ∧ ∀ v, p.2.data ≠ .cell v
  hok : HOk X.prog X.w H s.heap
  len : σ.length = X.N.length

section
variable {X : Cx} {pins : List (Addr × Obj)} {σ : List (Option V)} {H H' : Hp} {s : Shared} {h' : Heap}

theorem Cx.Ok.nofr (ok : X.Ok) {b : Addr} {o : Obj} (e : X.base.get? b = some o) : b ∉ X.fs := fun hb => by
  have := (ok.funs.mem hb).1
  rw [e] at this; cases this
theorem Inv.bs (I : Inv X pins σ H s) : ∀ b o, X.base.get? b = some o → s.heap.get? b = some o ∧ H b = none := fun b o e =>
  ⟨I.base.keep b o (I.ok.bs b o e).1 (I.ok.bs b o e).2 (I.ok.nofr e) (I.ok.noex b o e), I.base.free b o (I.ok.bs b o e).1 (I.ok.bs b o e).2 (I.ok.noex b o e)⟩
theorem Inv.bk (I : Inv X pins σ H s) : ∀ b o, X.base.get? b = some o → s.heap.get? b = some o := fun b o e => (I.bs b o e).1
theorem Inv.mod (I : Inv X pins σ H s) : Mod X.K X.mg X.base := I.ok.mod
theorem Inv.kIn (I : Inv X pins σ H s) : X.K.In s.heap := I.ok.mod.kin.keeps I.bk
theorem Inv.nolimit (I : Inv X pins σ H s) : s.heap.NoLimit := I.ok.mod.nolimit.keeps I.bk
/-- the frame over the base: for OpenK's rules (K.In X.base is I.mod.kin) -/
theorem Inv.fr (I : Inv X pins σ H s) : ∃ m, Fr X.base X.env.locals s.heap m :=
  let ⟨m, hn, _⟩ := I.loc
  ⟨m, hn, I.bk, Nat.le_trans I.ok.bsz I.ok.above⟩
theorem Inv.lt (I : Inv X pins σ H s) : X.env.locals < s.heap.objs.size := let ⟨_, hn, _⟩ := I.loc; hn.lt
theorem Inv.sz (I : Inv X pins σ H s) : X.s₀.heap.objs.size ≤ s.heap.objs.size := Nat.le_trans I.ok.above (Nat.le_of_lt I.lt)
theorem Inv.nofs (I : Inv X pins σ H s) {a : Addr} (h : s.heap.objs.size ≤ a) : a ∉ X.fs := fun hb => by
  obtain ⟨_, o, ho, _⟩ := I.ok.funs.mem hb
  exact absurd (Nat.lt_of_lt_of_le (Heap.lt_size ho) (Nat.le_trans I.sz h)) (Nat.lt_irrefl _)
theorem Inv.cne (I : Inv X pins σ H s) : ∀ x c, X.env.cells.lookup x = some c → c ≠ X.env.locals := fun x c e z => by
  obtain ⟨v, o, ho, hd⟩ := I.cell x c e
  obtain ⟨m, ⟨o', es, ep, ho', hd', _⟩, _⟩ := I.loc
  rw [z, ho'] at ho; cases ho; rw [hd'] at hd; cases hd
theorem Inv.funs (I : Inv X pins σ H s) : s.heap.FunFrames X.base X.outer := by
  have all : ∀ (l : List Env), (∀ b ∈ frs l, b ∈ X.fs) → X.s₀.heap.FunFrames X.base l → s.heap.FunFrames X.base l := by
    intro l
    induction l with
    | nil => intro _ _; trivial
    | cons env r ih =>
      intro hs hl
      obtain ⟨hk, ⟨L, o, hf, hn, ho, hd⟩, hr⟩ := hl
      have hL : L ∈ X.fs := hs L (by unfold frs; rw [List.filterMap_cons, hf]; exact List.mem_cons_self)
      obtain ⟨sl, e⟩ := I.base.slot L o ho (I.ok.frf L hL) hL fun z => I.ok.exfs L z hL
      exact ⟨hk, ⟨L, _, hf, hn, e, hd⟩, ih (fun b hb => hs b (by unfold frs; rw [List.filterMap_cons, hf]; exact List.mem_cons_of_mem _ hb)) hr⟩
  exact all X.outer (fun _ hb => hb) I.ok.funs

/-- the frames that run, for a call -/
theorem Inv.stack (I : Inv X pins σ H s) : s.heap.FunFrames X.base X.stack := by
  rcases I.ok.stk with e | ⟨e, hf⟩
  · rw [e]; exact I.funs
  · rw [e]
    obtain ⟨m, hn, _⟩ := I.loc
    refine .cons (by rw [I.ok.kind]; decide) hf hn ?_ I.funs
    exact Heap.get?_none_of_le (Nat.le_trans I.ok.bsz I.ok.above)
theorem Inv.stkSub (I : Inv X pins σ H s) : ∀ b ∈ frs X.stack, b ∈ X.env.locals :: X.fs := fun b hb => by
  rcases I.ok.stk with e | ⟨e, hf⟩
  · rw [e] at hb; exact List.mem_cons_of_mem _ hb
  · rw [e] at hb
    unfold frs at hb
    rw [List.filterMap_cons, hf] at hb
    exact hb
theorem Inv.stkFree (I : Inv X pins σ H s) : ∀ b ∈ frs X.stack, H b = none := fun b hb => by
  rcases List.mem_cons.mp (I.stkSub b hb) with e | hb
  · rw [e]; exact I.free
  · obtain ⟨_, o, ho, _⟩ := I.ok.funs.mem hb
    exact I.base.free b o ho (I.ok.frf b hb) fun z => I.ok.exfs b z hb

/-- THE STEP: the untracked objects but the frame and the records at ch are kept (the callers' frames up to slots), the frame's map is kept, the new abstract heap is held -/
theorem Inv.step {g' : Array GenState} {t' : Nat} {d' : Drawn} {ch : List Addr} (I : Inv X pins σ H s)
    (hch : ∀ b ∈ ch, (b ∈ X.ex ∨ X.s₀.heap.objs.size ≤ b) ∧ b ≠ X.env.locals ∧ (∀ x c, X.env.cells.lookup x = some c → c ≠ b) ∧ ∀ p ∈ X.pn ++ pins, p.1 ≠ b)
    (keep : ∀ b o, b ≠ X.env.locals → b ∉ X.fs → b ∉ ch → s.heap.get? b = some o → H b = none → h'.get? b = some o)
    (slot : ∀ b o, b ≠ X.env.locals → b ∈ X.fs → b ∉ ch → s.heap.get? b = some o → H b = none → ∃ sl, h'.get? b = some { o with slots := sl }) (free : ∀ b o, b ∉ ch → s.heap.get? b = some o → H b = none → H' b = none)
    (there : ∀ b o, b ∉ ch → s.heap.get? b = some o → ∃ o', h'.get? b = some o')
    (tups : ∀ b xs, H b = some (.tup xs) → H' b = some (.tup xs)) (frzs : ∀ b o u, H b = some (.frz o u) → H' b = some (.frz o u)) (tbls : ∀ b ps, H b = some (.tbl ps) → ∃ more, H' b = some (.tbl (ps ++ more)))
    (ns : ∀ m, s.heap.Ns X.env.locals m → h'.Ns X.env.locals m) (hok : HOk X.prog X.w H' h') (hg : AllBare g') :
    Inv X pins σ H' { s with heap := h', gens := g', drawn := d', toks := t' } := by
  have neL : ∀ b o, X.s₀.heap.get? b = some o → b ≠ X.env.locals := fun b o e => Nat.ne_of_lt (Nat.lt_of_lt_of_le (Heap.lt_size e) I.ok.above)
  have neC : ∀ b o, X.s₀.heap.get? b = some o → b ∉ X.ex → b ∉ ch := fun b o e hx hb => by
    rcases (hch b hb).1 with z | z
    · exact hx z
    · exact absurd (Nat.lt_of_lt_of_le (Heap.lt_size e) z) (Nat.lt_irrefl _)
  have cellK : ∀ x c, X.env.cells.lookup x = some c → ∀ v, s.heap.IsCell c v → h'.IsCell c v := fun x c e v ⟨o, ho, hd⟩ => by
    have nch : c ∉ ch := fun z => (hch c z).2.2.1 x c e rfl
    by_cases hc : c ∈ X.fs
    · obtain ⟨sl, q⟩ := slot c o (I.cne x c e) hc nch ho (I.freeC x c e)
      exact ⟨_, q, hd⟩
    · exact ⟨o, keep c o (I.cne x c e) hc nch ho (I.freeC x c e), hd⟩
  refine ⟨I.ok, I.os, hg, ⟨fun b o e n hb hx => ?_, fun b o e n hb hx => ?_, fun b o e n hx => ?_, fun b o e hx => ?_, fun b xs e => tups b xs (I.base.tups b xs e), fun b o xs e => frzs b o xs (I.base.frzs b o xs e), fun b ps e => ?_⟩, ?_, fun x c e => ?_, ?_, fun x c e => ?_, fun p hp => ?_, hok, I.len⟩
  · exact keep b o (neL b o e) hb (neC b o e hx) (I.base.keep b o e n hb hx) (I.base.free b o e n hx)
  · obtain ⟨sl, e1⟩ := I.base.slot b o e n hb hx
    obtain ⟨sl', e2⟩ := slot b _ (neL b o e) hb (neC b o e hx) e1 (I.base.free b o e n hx)
    exact ⟨sl', e2⟩
  · obtain ⟨o', e1⟩ := I.base.there b o e hx
    exact free b o' (neC b o e hx) e1 (I.base.free b o e n hx)
  · obtain ⟨o', e1⟩ := I.base.there b o e hx
    exact there b o' (neC b o e hx) e1
  · obtain ⟨m1, e1⟩ := I.base.tbls b ps e
    obtain ⟨m2, e2⟩ := tbls b _ e1
    exact ⟨m1 ++ m2, by rw [e2, Array.append_assoc]⟩
  · obtain ⟨m, hn, hl⟩ := I.loc
    refine ⟨m, ns m hn, fun i x v e1 e2 e3 => ?_⟩
    obtain ⟨u, r, l⟩ := hl i x v e1 e2 e3
    refine ⟨u, r, ?_⟩
    rcases l with l | ⟨k, c, e, z⟩
    · exact .inl l
    · exact .inr ⟨k, c, e, cellK x c e _ z⟩
  · obtain ⟨v, z⟩ := I.cell x c e
    exact ⟨v, cellK x c e v z⟩
  · obtain ⟨m, ⟨o, _, _, ho, _⟩, _⟩ := I.loc
    exact free _ o (fun z => (hch _ z).2.1 rfl) ho I.free
  · obtain ⟨v, o, ho, hd⟩ := I.cell x c e
    exact free c o (fun z => (hch c z).2.2.1 x c e rfl) ho (I.freeC x c e)
  · obtain ⟨e, n, ne, nf, d⟩ := I.pin p hp
    have nch : p.1 ∉ ch := fun z => (hch p.1 z).2.2.2 p hp rfl
    exact ⟨keep p.1 p.2 ne nf nch e n, free p.1 p.2 nch e n, ne, nf, d⟩
/-- .. where the frame's own object is kept too -/
theorem Inv.un {t' : Nat} (I : Inv X pins σ H s) (u : Un X.fs [] H H' s.heap h') (hok : HOk X.prog X.w H' h') : Inv X pins σ H' { s with heap := h', toks := t' } := by
  obtain ⟨m, ⟨o, es, ep, ho, r⟩, _⟩ := id I.loc
  obtain ⟨sl, hL⟩ := u.any ho I.free (by simp)
  exact I.step (g' := s.gens) (d' := s.drawn) (ch := []) (fun _ z => nomatch z) (fun b o _ hb _ e n => u.keep b o e n hb (by simp)) (fun b o _ hb _ e n => u.slot b o e n hb (by simp)) (fun b o _ e n => u.free b o e n (by simp)) (fun b o _ e => u.there b o e (by simp)) u.tups u.frzs u.tbls (fun m' hm => by
    obtain ⟨o', es', ep', ho', r'⟩ := hm
    rw [ho] at ho'; cases ho'
    exact ⟨_, es', ep', hL, r'⟩) hok I.bare
/-- behind a call (or a comprehension's block): the slots of this frame may have changed too, the records at ch may have turned -/
theorem Inv.call {g' : Array GenState} {t' : Nat} {d' : Drawn} {ch : List Addr} (I : Inv X pins σ H s) (u : Un (frs X.stack) ch H H' s.heap h') (hok : HOk X.prog X.w H' h') (hg : AllBare g')
    (hch : ∀ b ∈ ch, (b ∈ X.ex ∨ X.s₀.heap.objs.size ≤ b) ∧ b ≠ X.env.locals ∧ (∀ x c, X.env.cells.lookup x = some c → c ≠ b) ∧ ∀ p ∈ X.pn ++ pins, p.1 ≠ b) :
    Inv X pins σ H' { s with heap := h', gens := g', drawn := d', toks := t' } := by
  obtain ⟨m, ⟨o, es, ep, ho, r⟩, _⟩ := id I.loc
  obtain ⟨sl, hL⟩ := u.any ho I.free fun z => (hch _ z).2.1 rfl
  exact I.step (ch := ch) hch (fun b o hL hb hc e n => u.keep b o e n (fun z => (List.mem_cons.mp (I.stkSub b z)).elim hL hb) hc) (fun b o _ _ hc e n => u.any e n hc) (fun b o hc e n => u.free b o e n hc) (fun b o hc e => u.there b o e hc) u.tups u.frzs u.tbls (fun m' hm => by
    obtain ⟨o', es', ep', ho', r'⟩ := hm
    rw [ho] at ho'; cases ho'
    exact ⟨_, es', ep', hL, r'⟩) hok hg
/-- an untracked record of ours (an iterator) has turned -/
theorem Inv.turned {t' : Nat} {it : Addr} (I : Inv X pins σ H s) (k : ∀ b o, b ≠ it → s.heap.get? b = some o → h'.get? b = some o) (hn : H it = none) (hL : it ≠ X.env.locals)
    (h1 : it ∈ X.ex ∨ X.s₀.heap.objs.size ≤ it) (h2 : ∀ x c, X.env.cells.lookup x = some c → c ≠ it) (h3 : ∀ p ∈ X.pn ++ pins, p.1 ≠ it) : Inv X pins σ H { s with heap := h', toks := t' } := by
  have nit : ∀ b u, H b = some u → b ≠ it := fun b u e z => by rw [z, hn] at e; cases e
  refine I.step (g' := s.gens) (d' := s.drawn) (ch := [it]) (fun b hb => ?_) (fun b o _ _ hc e _ => k b o (fun z => hc (by simp [z])) e) (fun b o _ _ hc e _ => ⟨o.slots, k b o (fun z => hc (by simp [z])) e⟩) (fun _ _ _ _ n => n)
    (fun b o hc e => ⟨o, k b o (fun z => hc (by simp [z])) e⟩) (fun _ _ e => e) (fun _ _ _ e => e) (fun b ps e => ⟨#[], by rw [e]; simp⟩) (fun m hm => ?_) (fun b u e => ?_) I.bare
  · have e : b = it := by simpa using hb
    subst e
    exact ⟨h1, hL, h2, h3⟩
  · obtain ⟨o, es, ep, ho, r⟩ := hm
    exact ⟨o, es, ep, k _ o (Ne.symm hL) ho, r⟩
  · refine (I.hok b u e).stay (fun c v hc q => k c v ?_ q) (fun _ q => q) fun _ _ q => q
    rcases hc with z | z
    · rw [z]; exact nit b u e
    · exact nit c _ z
theorem Inv.tok (I : Inv X pins σ H s) (t : Nat) : Inv X pins σ H { s with toks := t } := I.un (h' := s.heap) (t' := t) Un.refl I.hok
/-- all objects kept -/
theorem Inv.kept {t' : Nat} (I : Inv X pins σ H s) (k : ∀ b u, s.heap.get? b = some u → h'.get? b = some u) : Inv X pins σ H { s with heap := h', toks := t' } := I.un (Un.kept k) (I.hok.kept k)
/-- a new object laid and tracked -/
theorem Inv.laid {a : Addr} {o : HO} {t' : Nat} (I : Inv X pins σ H s) (k : ∀ b u, s.heap.get? b = some u → h'.get? b = some u) (hp : s.heap.objs.size ≤ a) (new : ObjOk X.prog X.w (upd H a o) h' a o) :
    Inv X pins σ (upd H a o) { s with heap := h', toks := t' } := I.un (Un.laid k hp (I.hok.fresh hp)) (I.hok.laid k hp new)
/-- an object written -/
theorem Inv.write {x e : Addr} {o : HO} {t' : Nat} (I : Inv X pins σ H s) (mu : Mut (H x)) (he : e = x ∨ H e = some (.own x)) (k : ∀ b u, b ≠ e → s.heap.get? b = some u → h'.get? b = some u) (heo : ∃ u, h'.get? e = some u)
    (new : ObjOk X.prog X.w (upd H x o) h' x o) : Inv X pins σ (upd H x o) { s with heap := h', toks := t' } := I.un (Un.write mu he k heo) (I.hok.write mu he k heo new)
theorem Inv.pins_of {pins' : List (Addr × Obj)} (I : Inv X pins σ H s) (h : ∀ p ∈ pins', s.heap.get? p.1 = some p.2 ∧ H p.1 = none ∧ p.1 ≠ X.env.locals ∧ p.1 ∉ X.fs ∧ ∀ v, p.2.data ≠ .cell v) : Inv X pins' σ H s :=
  ⟨I.ok, I.os, I.bare, I.base, I.loc, I.cell, I.free, I.freeC, fun p hp => (List.mem_append.mp hp).elim (fun z => I.pin p (List.mem_append_left _ z)) (h p), I.hok, I.len⟩

theorem nodup_ix {N : List Str} (hN : N.Nodup) {i j : Nat} {x : Str} (a : N[i]? = some x) (b : N[j]? = some x) : i = j := by
  obtain ⟨h1, e1⟩ := List.getElem?_eq_some_iff.mp a
  obtain ⟨h2, e2⟩ := List.getElem?_eq_some_iff.mp b
  exact (List.getElem_inj hN).mp (e1.trans e2.symm)

/-- a name is stored; what changed -/
theorem store_ok2 {M : Model} {A : Around} {E : Value → Shared → Prop} {i : Nat} {x : Str} {v : V} {u : Value} {Q : Unit → Shared → Prop} (I : Inv X pins σ H s) (hN : X.N.Nodup) (hi : X.N[i]? = some x) (hx : Loc X.env.scope x) (r : RelV v u)
    (h : ∀ s', Inv X pins (σ.set i (some v)) H s' → (∃ a, Heap.SameBut a s.heap s'.heap ∧ (a = X.env.locals ∨ X.env.cells.lookup x = some a)) → Q () s') (hf : X.fn x = true ∨ X.env.scope.names.lookup x = some .local := by first | exact .inl rfl | exact .inr rfl | assumption) : wpAny M A (storeName X.env x u) Q E s := by
  obtain ⟨m, hn, hl⟩ := id I.loc
  have hcls : (X.env.scope.kind == .class || (X.env.scope.kind == .module && X.env.locals != X.env.globals)) = false := by rw [I.ok.kind]; rfl
  have hiσ : i < σ.length := by rw [I.len]; exact (List.getElem?_eq_some_iff.mp hi).1
  have cne := I.cne
  have tracked : ∀ {a : Addr} {h' : Heap}, (∃ o, s.heap.get? a = some o ∧ H a = none) → Heap.SameBut a s.heap h' → HOk X.prog X.w H h' := fun {a h'} ha hs b ob e => by
    obtain ⟨_, _, hfree⟩ := ha
    refine (I.hok b ob e).stay (fun c w' hc q => (hs.2 c ?_).trans q) (fun _ q => q) fun _ _ q => q
    rintro rfl
    rcases hc with rfl | hc
    · rw [hfree] at e; cases e
    · rw [hfree] at hc; cases hc
  rcases hx with hk | hk
  · refine wpAny_storeName_local hk hn (fun h' hn' hs => ?_) hcls
    obtain ⟨oL, _, _, hoL, _⟩ := id hn
    refine h _ ⟨I.ok, I.os, I.bare, ⟨fun b o e n hb hx => ?_, fun b o e n hb hx => ?_, I.base.free, fun b o e hx => ?_, I.base.tups, I.base.frzs, I.base.tbls⟩, ⟨_, hn', fun j y v' e1 e2 e3 => ?_⟩, fun y c e => ?_, I.free, I.freeC, fun p hp => ?_, tracked ⟨oL, hoL, I.free⟩ hs, by simpa using I.len⟩ ⟨_, hs, .inl rfl⟩
    · exact (hs.2 b (Nat.ne_of_lt (Nat.lt_of_lt_of_le (Heap.lt_size e) I.ok.above))).trans (I.base.keep b o e n hb hx)
    · obtain ⟨sl, e1⟩ := I.base.slot b o e n hb hx
      exact ⟨sl, (hs.2 b (Nat.ne_of_lt (Nat.lt_of_lt_of_le (Heap.lt_size e) I.ok.above))).trans e1⟩
    · obtain ⟨o', e1⟩ := I.base.there b o e hx
      exact ⟨o', (hs.2 b (Nat.ne_of_lt (Nat.lt_of_lt_of_le (Heap.lt_size e) I.ok.above))).trans e1⟩
    · by_cases hj : j = i
      · subst hj
        rw [hi] at e1; cases e1
        rw [List.getElem?_set_self hiσ] at e2
        cases e2
        exact ⟨u, r, .inl ⟨hk, by simp⟩⟩
      · rw [List.getElem?_set_ne (Ne.symm hj)] at e2
        obtain ⟨u', r', q⟩ := hl j y v' e1 e2 e3
        refine ⟨u', r', ?_⟩
        rcases q with ⟨k, e⟩ | ⟨k, c, e, z⟩
        · refine .inl ⟨k, ?_⟩
          have : y ≠ x := fun e => hj (nodup_ix hN e1 (e ▸ hi))
          simp [this, e]
        · exact .inr ⟨k, c, e, z.sameBut hs (cne y c e)⟩
    · obtain ⟨w', z⟩ := I.cell y c e
      exact ⟨w', z.sameBut hs (cne y c e)⟩
    · obtain ⟨e, n, ne, nf, d⟩ := I.pin p hp
      exact ⟨(hs.2 p.1 ne).trans e, n, ne, nf, d⟩
  · have hfn : X.fn x = true := by
      rcases hf with z | z
      · exact z
      · rw [z] at hk; cases hk
    obtain ⟨c, hc⟩ := I.ok.has x (.inl hk)
    obtain ⟨w', z⟩ := I.cell x c hc
    refine wpAny_storeName_cell I.ok.kind hk hc z (fun h' hc' hs => ?_)
    obtain ⟨oc, hoc, hocd⟩ := id z
    refine h { s with heap := h' } ⟨I.ok, I.os, I.bare, ⟨fun b o e n hb hx => ?_, fun b o e n hb hx => ?_, I.base.free, fun b o e hx => ?_, I.base.tups, I.base.frzs, I.base.tbls⟩, ⟨m, hn.sameBut hs (Ne.symm (cne x c hc)), fun j y v' e1 e2 e3 => ?_⟩, fun y c' e => ?_, I.free, I.freeC, fun p hp => ?_, tracked ⟨oc, hoc, I.freeC x c hc⟩ hs, by simpa using I.len⟩ ⟨c, hs, .inr hc⟩
    · exact (hs.2 b (Nat.ne_of_lt (Nat.lt_of_lt_of_le (Heap.lt_size e) (I.ok.cab x c hfn hc)))).trans (I.base.keep b o e n hb hx)
    · obtain ⟨sl, e1⟩ := I.base.slot b o e n hb hx
      exact ⟨sl, (hs.2 b (Nat.ne_of_lt (Nat.lt_of_lt_of_le (Heap.lt_size e) (I.ok.cab x c hfn hc)))).trans e1⟩
    · obtain ⟨o', e1⟩ := I.base.there b o e hx
      exact ⟨o', (hs.2 b (Nat.ne_of_lt (Nat.lt_of_lt_of_le (Heap.lt_size e) (I.ok.cab x c hfn hc)))).trans e1⟩
    · by_cases hj : j = i
      · subst hj
        rw [hi] at e1; cases e1
        rw [List.getElem?_set_self hiσ] at e2
        cases e2
        exact ⟨u, r, .inr ⟨.inl hk, c, hc, hc'⟩⟩
      · rw [List.getElem?_set_ne (Ne.symm hj)] at e2
        obtain ⟨u', r', q⟩ := hl j y v' e1 e2 e3
        refine ⟨u', r', ?_⟩
        rcases q with q | ⟨k, c', e, z'⟩
        · exact .inl q
        · refine .inr ⟨k, c', e, z'.sameBut hs ?_⟩
          rintro rfl
          exact hj (nodup_ix hN e1 (I.ok.inj _ _ _ e hc ▸ hi))
    · by_cases hcc : c' = c
      · subst hcc; exact ⟨_, hc'⟩
      · obtain ⟨w2, z2⟩ := I.cell y c' e
        exact ⟨w2, z2.sameBut hs hcc⟩
    · obtain ⟨e, n, ne, nf, d⟩ := I.pin p hp
      refine ⟨(hs.2 p.1 ?_).trans e, n, ne, nf, d⟩
      intro q
      rw [q, hoc] at e
      have q' : oc = p.2 := Option.some.inj e
      exact d w' (by rw [← q']; exact hocd)
theorem store_ok {M : Model} {A : Around} {E : Value → Shared → Prop} {i : Nat} {x : Str} {v : V} {u : Value} {Q : Unit → Shared → Prop} (I : Inv X pins σ H s) (hN : X.N.Nodup) (hi : X.N[i]? = some x) (hx : Loc X.env.scope x) (r : RelV v u)
    (h : ∀ s', Inv X pins (σ.set i (some v)) H s' → Q () s') (hf : X.fn x = true ∨ X.env.scope.names.lookup x = some .local := by first | exact .inl rfl | exact .inr rfl | assumption) : wpAny M A (storeName X.env x u) Q E s :=
  store_ok2 I hN hi hx r (fun s' I' _ => h s' I') hf
/-- behind a call or a block, the state as it is -/
theorem Inv.call' {s' : Shared} {ch : List Addr} (I : Inv X pins σ H s) (ho : s'.os = s.os) (u : Un (frs X.stack) ch H H' s.heap s'.heap) (hok : HOk X.prog X.w H' s'.heap) (hg : AllBare s'.gens)
    (hch : ∀ b ∈ ch, (b ∈ X.ex ∨ X.s₀.heap.objs.size ≤ b) ∧ b ≠ X.env.locals ∧ (∀ x c, X.env.cells.lookup x = some c → c ≠ b) ∧ ∀ p ∈ X.pn ++ pins, p.1 ≠ b) : Inv X pins σ H' s' := by
  obtain ⟨h', g', d', t', o'⟩ := s'
  have e : o' = s.os := ho
  subst e
  exact I.call (g' := g') (t' := t') (d' := d') u hok hg hch
end

/-! ### the judgements -/
/-- an exception: its class, its own dict's address (where it has one), the abstract heap behind it -/
abbrev XK := Value → Option Addr → Hp → Prop
abbrev St := List (Option V)
abbrev VK := V → Hp → Prop
/-- an expression's reading; a test's; an argument list's -/
abbrev TE := St → Hp → VK → Prop
abbrev TT := St → Hp → (Bool → Hp → Prop) → Prop
abbrev TA := St → Hp → (List V → Hp → Prop) → Prop
/-- what is wanted behind a statement -/
structure Ends where
  nx : St → Hp → Prop
  rt : VK
  bk : St → Hp → Prop := fun _ _ => False
  ct : St → Hp → Prop := fun _ _ => False
abbrev TS := Ends → St → Hp → Prop

def EP (X : Cx) (pins : List (Addr × Obj)) (σ : St) (Q : VK) (u : Value) (s' : Shared) : Prop := ∃ v H', Inv X pins σ H' s' ∧ RelV v u ∧ Q v H'
def TP (X : Cx) (pins : List (Addr × Obj)) (σ : St) (Q : Bool → Hp → Prop) (b : Bool) (s' : Shared) : Prop := ∃ H', Inv X pins σ H' s' ∧ Q b H'
def AP (X : Cx) (pins : List (Addr × Obj)) (σ : St) (Q : List V → Hp → Prop) (us : List Value) (s' : Shared) : Prop := ∃ vs H', Inv X pins σ H' s' ∧ Vals vs us ∧ Q vs H'
def SP (X : Cx) (pins : List (Addr × Obj)) (D : Ends) (f : Flow) (s' : Shared) : Prop :=
  match f with
  | .next => ∃ σ' H', Inv X pins σ' H' s' ∧ D.nx σ' H'
  | .brk => ∃ σ' H', Inv X pins σ' H' s' ∧ D.bk σ' H'
  | .cont => ∃ σ' H', Inv X pins σ' H' s' ∧ D.ct σ' H'
  | .ret u => ∃ v σ' H', Inv X pins σ' H' s' ∧ RelV v u ∧ D.rt v H'

def PE (X : Cx) (e : Expr) (t : TE) : Prop :=
  ∀ (pins : List (Addr × Obj)) (s : Shared) (σ : St) (H : Hp) (Q : VK), Inv X pins σ H s → t σ H Q → wpAny (model X.prog X.w) X.A (eval e X.env) (EP X pins σ Q) X.xe s
def PT (X : Cx) (e : Expr) (t : TT) : Prop :=
  ∀ (pins : List (Addr × Obj)) (s : Shared) (σ : St) (H : Hp) (Q : Bool → Hp → Prop), Inv X pins σ H s → t σ H Q → wpAny (model X.prog X.w) X.A (isTrue e X.env (eval e X.env)) (TP X pins σ Q) X.xe s
/-- a test whatever its 'whole' is (and, or) -/
def PW (X : Cx) (e : Expr) (t : TT) : Prop :=
  ∀ (whole : Sem Value) (pins : List (Addr × Obj)) (s : Shared) (σ : St) (H : Hp) (Q : Bool → Hp → Prop), Inv X pins σ H s → t σ H Q → wpAny (model X.prog X.w) X.A (isTrue e X.env whole) (TP X pins σ Q) X.xe s
theorem PW.pt {X : Cx} {e : Expr} {t : TT} (h : PW X e t) : PT X e t := h _
/-- an argument list (no star), from the left -/
def PA (X : Cx) (es : List Expr) (t : TA) : Prop :=
  ∀ (pos : Pos) (pins : List (Addr × Obj)) (s : Shared) (σ : St) (H : Hp) (Q : List V → Hp → Prop), Inv X pins σ H s → t σ H Q → wpAny (model X.prog X.w) X.A (spliced (backTo pos (starEach es X.env))) (AP X pins σ Q) X.xe s
def PS (X : Cx) (st : Stmt) (t : TS) : Prop :=
  ∀ (pins : List (Addr × Obj)) (s : Shared) (σ : St) (H : Hp) (D : Ends), Inv X pins σ H s → t D σ H → wpAny (model X.prog X.w) X.A (exec st X.env) (SP X pins D) X.xe s
def PSs (X : Cx) (st : List Stmt) (t : TS) : Prop :=
  ∀ (pins : List (Addr × Obj)) (s : Shared) (σ : St) (H : Hp) (D : Ends), Inv X pins σ H s → t D σ H → wpAny (model X.prog X.w) X.A (execs st X.env) (SP X pins D) X.xe s
/-- weaken the end -/
theorem thn {α : Type} {t : Sem α} {Q Q' : α → Shared → Prop} {M : Model} {A : Around} {E : Value → Shared → Prop} {s : Shared} (h : wpAny M A t Q E s) (hQ : ∀ a s, Q a s → Q' a s) : wpAny M A t Q' E s := wpAny_mono h hQ fun _ _ x => x
end L2

namespace L2
open PySem PySem.Spec PyProof.Rows
section
variable {X : Cx}

/-- two expressions in a row -/
theorem bin {a b : Expr} {ta tb : TE} (ha : PE X a ta) (hb : PE X b tb) {pins : List (Addr × Obj)} {s : Shared} {σ : St} {H : Hp} {R : V → V → Hp → Prop} (I : Inv X pins σ H s) (h : ta σ H fun x H1 => tb σ H1 fun y H2 => R x y H2)
    {α : Type} {Q : α → Shared → Prop} {f : Value → Value → Sem α}
    (hf : ∀ v u s2 x y H2, Inv X pins σ H2 s2 → RelV x v → RelV y u → R x y H2 → wpAny (model X.prog X.w) X.A (f v u) Q X.xe s2) :
    wpAny (model X.prog X.w) X.A (eval a X.env) (fun v s₁ => wpAny (model X.prog X.w) X.A (eval b X.env) (fun u s₂ => wpAny (model X.prog X.w) X.A (f v u) Q X.xe s₂) X.xe s₁) X.xe s := by
  refine thn (ha pins s σ H _ I h) fun v s1 ⟨x, H1, I1, r1, q1⟩ => ?_
  refine thn (hb pins s1 σ H1 _ I1 q1) fun u s2 ⟨y, H2, I2, r2, q2⟩ => ?_
  exact hf v u s2 x y H2 I2 r1 r2 q2

/-! ### names and constants -/
def tVar (i : Nat) : TE := fun σ H Q => ∃ v, σ[i]? = some (some v) ∧ Q v H
def tC (v : V) : TE := fun _ H Q => Q v H
theorem pe_var {i : Nat} {x : Str} {pos : Pos} (hN : X.N[i]? = some x) (hv : Vis X.env.scope x) (hd : (x == ("__debug__" : Str)) = false := by decide) (hcd : (x == ("__classdict__" : Str)) = false := by decide) : PE X (.Name x pos) (tVar i) := by
  intro pins s σ H Q I h
  obtain ⟨v, e, h⟩ := h
  obtain ⟨m, hn, hl⟩ := I.loc
  obtain ⟨u, r, l⟩ := hl i x v hN e hv
  have fin : EP X pins σ Q u s := ⟨v, H, I, r, h⟩
  rcases l with ⟨hk, hm⟩ | ⟨hk, c, hc, hcell⟩
  · exact wpAny_Name (wpAny_loadName_local I.ok.kind hk hn hm fin) hd
  · rcases hk with hk | hk
    · exact wpAny_Name (wpAny_loadName_cell I.ok.kind hk hc hcell fin) hd
    · exact wpAny_Name (wpAny_loadName_free I.ok.kind hk hc hcell fin hcd) hd
theorem pe_int {i j pos} : PE X (.Constant (.int i) j pos) (tC (.int i)) := fun _ _ _ H _ I h => wpAny_Constant_int ⟨.int i, H, I.tok _, ⟨_, rfl⟩, h⟩
theorem pe_bl {b j pos} : PE X (.Constant (.bool b) j pos) (tC (.bl b)) := fun _ _ _ H _ I h => Constant_bool ⟨.bl b, H, I, rfl, h⟩
theorem pe_non {j pos} : PE X (.Constant .none j pos) (tC .non) := fun _ _ _ H _ I h => Constant_none ⟨.non, H, I, rfl, h⟩
theorem pe_str {x j pos} : PE X (.Constant (.str x) j pos) (tC (.str x)) := fun _ _ _ H _ I h => Calls.Constant_str ⟨.str x, H, I.tok _, ⟨_, rfl⟩, h⟩

/-- a global name of the def -/
def Gl (X : Cx) (x : Str) : Prop := X.env.kindOf x = some .globalImplicit
theorem ld_glob {E : Value → Shared → Prop} {pins : List (Addr × Obj)} {s : Shared} {σ : St} {H : Hp} {x : Str} {u : Value} {pos : Pos} {Q : Value → Shared → Prop} (I : Inv X pins σ H s) (hg : Gl X x) (hm : X.mg x = some u) (h : Q u s)
    (hd : (x == ("__debug__" : Str)) = false := by decide) : wpAny (model X.prog X.w) X.A (eval (.Name x pos) X.env) Q E s :=
  Calls.Name_function_global I.ok.kind hg (Calls.loadGlobal_global (by rw [I.ok.glob]; exact I.mod.glob.keeps I.bk) hm h) hd
theorem ld_blt {E : Value → Shared → Prop} {pins : List (Addr × Obj)} {s : Shared} {σ : St} {H : Hp} {x : Str} {u : Value} {pos : Pos} {Q : Value → Shared → Prop} (I : Inv X pins σ H s) (hg : Gl X x) (hm : X.mg x = none) (hv : bootBuiltins x = some u) (h : Q u s)
    (hn : x ≠ "__name__" := by decide) (hd : (x == ("__debug__" : Str)) = false := by decide) : wpAny (model X.prog X.w) X.A (eval (.Name x pos) X.env) Q E s := by
  obtain ⟨mb, h1, h2⟩ := I.mod.blt
  exact Calls.Name_function_global I.ok.kind hg (Calls.loadGlobal_builtin (by rw [I.ok.glob]; exact I.mod.glob.keeps I.bk) hm (by rw [I.ok.blt]; exact h1.keeps I.bk) ((h2 x hn).trans hv) h) hd
/-- a module's constant, a class, a function, as a value -/
theorem pe_glob {x : Str} {v : V} {u : Value} {pos : Pos} (hg : Gl X x) (hm : X.mg x = some u) (r : RelV v u) (hd : (x == ("__debug__" : Str)) = false := by decide) : PE X (.Name x pos) (tC v) :=
  fun _ _ _ H _ I h => ld_glob I hg hm ⟨v, H, I, r, h⟩ hd
theorem pe_bltn {x : Str} {v : V} {u : Value} {pos : Pos} (hg : Gl X x) (hm : X.mg x = none) (hv : bootBuiltins x = some u) (r : RelV v u) (hn : x ≠ "__name__" := by decide) (hd : (x == ("__debug__" : Str)) = false := by decide) : PE X (.Name x pos) (tC v) :=
  fun _ _ _ H _ I h => ld_blt I hg hm hv ⟨v, H, I, r, h⟩ hn hd

/-! ### arithmetic -/
variable {a b : Expr} {ta tb : TE} {pos : Pos}
/-! ### comparisons -/
def PC (X : Cx) (op : CmpOp) (a b : Expr) (t : TE) : Prop :=
  ∀ (pins : List (Addr × Obj)) (s : Shared) (σ : St) (H : Hp) (Q : VK), Inv X pins σ H s → t σ H Q →
    wpAny (model X.prog X.w) X.A (eval a X.env) (fun v s₁ => wpAny (model X.prog X.w) X.A (eval b X.env) (fun u s₂ => wpAny (model X.prog X.w) X.A (compareOp op v u) (EP X pins σ Q) X.xe s₂) X.xe s₁) X.xe s
theorem nobehind (b : Expr) {op : CmpOp} (h : op ≠ .In) (h2 : op ≠ .NotIn) : behindInMarks op b = false := by
  have e1 : (op == CmpOp.In) = false := by cases op <;> first | rfl | exact absurd rfl h
  have e2 : (op == CmpOp.NotIn) = false := by cases op <;> first | rfl | exact absurd rfl h2
  cases b <;> simp [behindInMarks, e1, e2]
/-- is None -/
def tIsN (ta : TE) : TE := fun σ H Q => ta σ H fun x H1 => Q (.bl (decide (x = .non))) H1
def tNotN (ta : TE) : TE := fun σ H Q => ta σ H fun x H1 => Q (.bl (!decide (x = .non))) H1
theorem RelV.none_iff {x : V} {v : Value} (r : RelV x v) : (v == Value.none) = decide (x = .non) := by
  cases x with
  | non => cases r; rfl
  | bl _ => cases r; rfl
  | int _ => obtain ⟨t, rfl⟩ := r; rfl
  | str _ => obtain ⟨t, rfl⟩ := r; rfl
  | byt _ => obtain ⟨t, rfl⟩ := r; rfl
  | flt _ => obtain ⟨t, rfl⟩ := r; rfl
  | ref _ => cases r; rfl
  | ty _ => cases r; rfl
theorem pc_isN {j pos'} (ha : PE X a ta) : PC X .Is a (.Constant .none j pos') (tIsN ta) := by
  intro pins s σ H Q I h
  refine thn (ha pins s σ H _ I h) fun v s1 ⟨x, H1, I1, r1, q1⟩ => ?_
  exact Constant_none (is_none_gen ⟨.bl _, H1, I1, by rw [r1.none_iff]; rfl, q1⟩)
theorem pc_notN {j pos'} (ha : PE X a ta) : PC X .IsNot a (.Constant .none j pos') (tNotN ta) := by
  intro pins s σ H Q I h
  refine thn (ha pins s σ H _ I h) fun v s1 ⟨x, H1, I1, r1, q1⟩ => ?_
  exact Constant_none (isnot_none_gen ⟨.bl _, H1, I1, by rw [r1.none_iff]; rfl, q1⟩)
/-- a comparison as a value, as a test -/
def tB (t : TE) : TT := fun σ H Q => t σ H fun x H1 => ∃ c, x = .bl c ∧ Q c H1
theorem pe_cmp {op : CmpOp} {t : TE} (h : PC X op a b t) (h1 : behindInMarks op b = false := by first | exact nobehind _ (by decide) (by decide) | rfl) : PE X (.Compare a [op] [b] pos) t := fun pins s σ H Q I hw => wpAny_Compare1 (h pins s σ H Q I hw) h1
theorem pt_cmp {op : CmpOp} {t : TE} (h : PC X op a b t) (h1 : behindInMarks op b = false := by first | exact nobehind _ (by decide) (by decide) | rfl) : PT X (.Compare a [op] [b] pos) (tB t) := by
  intro pins s σ H Q I hw
  refine wpAny_isTrue_Compare1 (thn (h pins s σ H _ I hw) fun v s1 h1 => thn h1 fun u s2 h2 => thn h2 fun c s3 ⟨x, H1, I1, r1, q1⟩ => ?_) h1
  obtain ⟨d, rfl, q⟩ := q1
  cases r1
  exact wpAny_truthy_bool ⟨H1, I1, q⟩
/-- an expression whose value is a bool, as a test -/
theorem pt_val {e : Expr} {t : TE} (h : PE X e t) (he : ∀ whole, isTrue e X.env whole = (do let v ← whole; standAt e.pos; holding [v] (truthy v)) := by intro _; rfl) : PT X e (tB t) := by
  intro pins s σ H Q I hw
  refine isTrue_plain (thn (h pins s σ H _ I hw) fun v s1 ⟨x, H1, I1, r1, q1⟩ => ?_) (he _)
  obtain ⟨d, rfl, q⟩ := q1
  cases r1
  exact wpAny_truthy_bool ⟨H1, I1, q⟩

/-! ### and, or, not -/
variable {tA tB' : TT} {rest : List Expr}
def tAnd (t u : TT) : TT := fun σ H Q => t σ H fun c H1 => if c = true then u σ H1 Q else Q false H1
def tOr (t u : TT) : TT := fun σ H Q => t σ H fun c H1 => if c = true then Q true H1 else u σ H1 Q
def tNot (t : TT) : TT := fun σ H Q => t σ H fun c H1 => Q (!c) H1
theorem pw_and1 (ha : PT X a tA) : PW X (.BoolOp .And [a] pos) tA := by
  intro wh pins s σ H Q I h
  refine isTrue_and (thn (ha pins s σ H Q I h) fun c s1 e => ?_)
  cases c with
  | true => exact isTrue_and_nil e
  | false => exact e
theorem pw_or1 (ha : PT X a tA) : PW X (.BoolOp .Or [a] pos) tA := by
  intro wh pins s σ H Q I h
  refine isTrue_or (thn (ha pins s σ H Q I h) fun c s1 e => ?_)
  cases c with
  | false => exact isTrue_or_nil e
  | true => exact e
theorem pw_and (ha : PT X a tA) (hb : PW X (.BoolOp .And (b :: rest) pos) tB') : PW X (.BoolOp .And (a :: b :: rest) pos) (tAnd tA tB') := by
  intro wh pins s σ H Q I h
  refine isTrue_and (thn (ha pins s σ H _ I h) fun c s1 ⟨H1, I1, q1⟩ => ?_)
  cases c with
  | true => exact hb wh pins s1 σ H1 Q I1 q1
  | false => exact ⟨H1, I1, q1⟩
theorem pw_or (ha : PT X a tA) (hb : PW X (.BoolOp .Or (b :: rest) pos) tB') : PW X (.BoolOp .Or (a :: b :: rest) pos) (tOr tA tB') := by
  intro wh pins s σ H Q I h
  refine isTrue_or (thn (ha pins s σ H _ I h) fun c s1 ⟨H1, I1, q1⟩ => ?_)
  cases c with
  | true => exact ⟨H1, I1, q1⟩
  | false => exact hb wh pins s1 σ H1 Q I1 q1
theorem pt_not (ha : PT X a tA) : PT X (.UnaryOp .Not a pos) (tNot tA) := by
  intro pins s σ H Q I h
  exact isTrue_not (ha pins s σ H (fun c H1 => Q (!c) H1) I h)
/-- .. as values (bools) -/
def tAndV (ta tb : TE) : TE := fun σ H Q => ta σ H fun x H1 => ∃ c, x = .bl c ∧ if c = true then tb σ H1 Q else Q (.bl false) H1
def tNotV (ta : TE) : TE := fun σ H Q => ta σ H fun x H1 => ∃ c, x = .bl c ∧ Q (.bl (!c)) H1
theorem pe_one {op} {t : TE} (h : PE X a t) : PE X (.BoolOp op [a] pos) t := fun pins s σ H Q I hw => BoolOp_one (h pins s σ H Q I hw)
theorem pe_and (ha : PE X a ta) (hb : PE X (.BoolOp .And (b :: rest) pos) tb) : PE X (.BoolOp .And (a :: b :: rest) pos) (tAndV ta tb) := by
  intro pins s σ H Q I h
  refine BoolOp_and (thn (ha pins s σ H _ I h) fun v s1 ⟨x, H1, I1, r1, q1⟩ => ?_)
  obtain ⟨c, rfl, q1⟩ := q1
  cases r1
  refine wpAny_truthy_bool ?_
  cases c with
  | true => exact hb pins s1 σ H1 Q I1 q1
  | false => exact ⟨.bl false, H1, I1, rfl, q1⟩
theorem pe_not (ha : PE X a ta) : PE X (.UnaryOp .Not a pos) (tNotV ta) := by
  intro pins s σ H Q I h
  refine UnaryOp_ (thn (ha pins s σ H _ I h) fun v s1 ⟨x, H1, I1, r1, q1⟩ => ?_)
  obtain ⟨c, rfl, q1⟩ := q1
  cases r1
  exact not_of (wpAny_truthy_bool ⟨.bl (!c), H1, I1, rfl, q1⟩)
end
end L2

namespace L2
open PySem PySem.Spec PyProof.Rows

/-! ### a list, a tuple that is read: tracked, frozen, or an object of the module -/
def SqL (K : PySem.W.Frag) (H : Hp) (a : Addr) (xs : List V) : Prop :=
  Rd H a (.lst xs) ∨
    ∃ (o : Obj) (its : Array Value) (n : Nat), K.lookup a = some o ∧ o.cls = .type "list" ∧ o.dict = none ∧ o.data = .seq its n ∧ its.size ≤ sizeLine ∧ Vals xs its.toList
def SqT (K : PySem.W.Frag) (H : Hp) (a : Addr) (xs : List V) : Prop :=
  Rd H a (.tup xs) ∨
    ∃ (o : Obj) (its : Array Value) (n : Nat), K.lookup a = some o ∧ o.cls = .type "tuple" ∧ o.data = .seq its n ∧ its.size ≤ sizeLine ∧ Vals xs its.toList
def absV : Value → Option V
  | .none => some .non
  | .bool b => some (.bl b)
  | .int i _ => some (.int i)
  | .str x _ => some (.str x)
  | .bytes b _ => some (.byt b)
  | .float b _ => some (.flt b)
  | .ref a => some (.ref a)
  | .type n => some (.ty n)
  | _ => none
theorem RelV.abs {x : V} {u : Value} (r : RelV x u) : absV u = some x := by
  cases x with
  | non => cases r; rfl
  | bl _ => cases r; rfl
  | int _ => obtain ⟨t, rfl⟩ := r; rfl
  | str _ => obtain ⟨t, rfl⟩ := r; rfl
  | byt _ => obtain ⟨t, rfl⟩ := r; rfl
  | flt _ => obtain ⟨t, rfl⟩ := r; rfl
  | ref _ => cases r; rfl
  | ty _ => cases r; rfl
theorem RelV.inj {x y : V} {u : Value} (r : RelV x u) (q : RelV y u) : x = y := Option.some.inj (r.abs.symm.trans q.abs)
theorem Vals.inj : ∀ {xs ys : List V} {us : List Value}, Vals xs us → Vals ys us → xs = ys
  | _, _, _, .nil, .nil => rfl
  | _, _, _, .cons r t, .cons r' t' => by rw [r.inj r', Vals.inj t t']
section
variable {X : Cx} {pins : List (Addr × Obj)} {σ : St} {H : Hp} {s : Shared} {a : Addr} {xs ys : List V}
theorem SqL.of {K : PySem.W.Frag} (h : H a = some (.lst xs)) : SqL K H a xs := .inl (.inl h)
theorem SqT.of {K : PySem.W.Frag} (h : H a = some (.tup xs)) : SqT K H a xs := .inl (.inl h)
theorem Inv.list (I : Inv X pins σ H s) (h : SqL X.K H a xs) : ∃ its : List Value, Vals xs its ∧ PlainL s.heap a its.toArray ∧ xs.length ≤ sizeLine := by
  rcases h with h | ⟨o, its, n, hk, hc, hd, hs, hz, r⟩
  · obtain ⟨z, its, n, r, e⟩ := h.ok I.hok
    exact ⟨its, r, ⟨_, n, e, rfl, rfl, rfl⟩, z⟩
  · refine ⟨its.toList, r, ⟨o, n, I.kIn a o hk, hc, hd, by simpa using hs⟩, ?_⟩
    have e := r.length
    simp only [Array.length_toList] at e
    omega
theorem Inv.tuple (I : Inv X pins σ H s) (h : SqT X.K H a xs) : ∃ its : List Value, Vals xs its ∧ IsTup s.heap a its.toArray ∧ xs.length ≤ sizeLine := by
  rcases h with h | ⟨o, its, n, hk, hc, hs, hz, r⟩
  · obtain ⟨z, its, r, p⟩ := h.ok I.hok
    exact ⟨its, r, p, z⟩
  · refine ⟨its.toList, r, ⟨o, I.kIn a o hk, hc, n, by simpa using hs⟩, ?_⟩
    have e := r.length
    simp only [Array.length_toList] at e
    omega
theorem Inv.list_inj (I : Inv X pins σ H s) (h : SqL X.K H a xs) (h' : SqL X.K H a ys) : xs = ys := by
  obtain ⟨its, r, ⟨o, n, e, _, _, d⟩, _⟩ := I.list h
  obtain ⟨its', r', ⟨o', n', e', _, _, d'⟩, _⟩ := I.list h'
  rw [e] at e'; cases e'
  rw [d] at d'
  injection d' with d1 _
  have : its = its' := by simpa using congrArg Array.toList d1
  subst this
  exact r.inj r'
end

/-! ### another wish about exceptions -/
abbrev Cx.wish (X : Cx) (E : Value → Shared → Prop) : Cx := { X with xe := E }
/-- no exception leaves -/
abbrev Cx.nox (X : Cx) : Cx := X.wish fun _ _ => False
theorem Cx.Ok.wish {X : Cx} (ok : X.Ok) (E : Value → Shared → Prop) : (X.wish E).Ok :=
  ⟨ok.mod, ok.kind, ok.glob, ok.blt, ok.above, ok.inj, ok.has, ok.cab, ok.hd, ok.frames, ok.stk, ok.exf, ok.bs, ok.bsz, ok.noex, ok.exfs, ok.funs, ok.frf⟩
theorem Cx.Ok.unwish {X : Cx} {E : Value → Shared → Prop} (ok : (X.wish E).Ok) : X.Ok :=
  ⟨ok.mod, ok.kind, ok.glob, ok.blt, ok.above, ok.inj, ok.has, ok.cab, ok.hd, ok.frames, ok.stk, ok.exf, ok.bs, ok.bsz, ok.noex, ok.exfs, ok.funs, ok.frf⟩
section
variable {X : Cx} {pins : List (Addr × Obj)} {σ : St} {H : Hp} {s : Shared} {E : Value → Shared → Prop}
theorem Inv.wish (I : Inv X pins σ H s) (E : Value → Shared → Prop) : Inv (X.wish E) pins σ H s := ⟨I.ok.wish E, I.os, I.bare, I.base, I.loc, I.cell, I.free, I.freeC, I.pin, I.hok, I.len⟩
theorem Inv.unwish (I : Inv (X.wish E) pins σ H s) : Inv X pins σ H s := ⟨I.ok.unwish, I.os, I.bare, I.base, I.loc, I.cell, I.free, I.freeC, I.pin, I.hok, I.len⟩
theorem SP.unwish {D : Ends} {f : Flow} {s' : Shared} (h : SP (X.wish E) pins D f s') : SP X pins D f s' := by
  cases f with
  | next => obtain ⟨σ', H', I, q⟩ := h; exact ⟨σ', H', I.unwish, q⟩
  | brk => obtain ⟨σ', H', I, q⟩ := h; exact ⟨σ', H', I.unwish, q⟩
  | cont => obtain ⟨σ', H', I, q⟩ := h; exact ⟨σ', H', I.unwish, q⟩
  | ret u => obtain ⟨v, σ', H', I, r, q⟩ := h; exact ⟨v, σ', H', I.unwish, r, q⟩
theorem PE.nox {e : Expr} {t : TE} (h : PE X.nox e t) : PE X e t := fun pins s σ H Q I hw =>
  wpAny_mono (h pins s σ H Q (I.wish _) hw) (fun _ _ ⟨v, H', I', r, q⟩ => ⟨v, H', I'.unwish, r, q⟩) fun _ _ z => False.elim z
theorem PT.nox {e : Expr} {t : TT} (h : PT X.nox e t) : PT X e t := fun pins s σ H Q I hw =>
  wpAny_mono (h pins s σ H Q (I.wish _) hw) (fun _ _ ⟨H', I', q⟩ => ⟨H', I'.unwish, q⟩) fun _ _ z => False.elim z
theorem PSs.nox {st : List Stmt} {t : TS} (h : PSs X.nox st t) : PSs X st t := fun pins s σ H D I hw =>
  wpAny_mono (h pins s σ H D (I.wish _) hw) (fun _ _ q => q.unwish) fun _ _ z => False.elim z
end

/-! ### blocks and small statements -/
section
variable {X : Cx} {st : Stmt} {rest : List Stmt} {t u : TS} {e : Expr} {te : TE} {pos : Pos}
def tNext : TS := fun D σ H => D.nx σ H
def tSeq (t u : TS) : TS := fun D σ H => t { D with nx := u D } σ H
theorem pss_nil : PSs X [] tNext := fun _ _ σ H _ I h => wpAny_execs_nil ⟨σ, H, I, h⟩
theorem pss_cons (h1 : PS X st t) (h2 : PSs X rest u) : PSs X (st :: rest) (tSeq t u) := by
  intro pins s σ H D I h
  refine wpAny_execs_cons (thn (h1 pins s σ H { D with nx := u D } I h) fun f s1 q => ?_)
  cases f with
  | next =>
    obtain ⟨σ', H', I', q⟩ := q
    exact h2 pins s1 σ' H' D I' q
  | ret v => exact q
  | brk => exact q
  | cont => exact q
theorem pss_one (h1 : PS X st t) : PSs X [st] t := by
  intro pins s σ H D I h
  refine wpAny_execs_cons (thn (h1 pins s σ H D I h) fun f s1 q => ?_)
  cases f with
  | next => exact wpAny_execs_nil q
  | ret v => exact q
  | brk => exact q
  | cont => exact q
/-- in a def's body nothing is shown -/
theorem Inv.quiet {pins : List (Addr × Obj)} {σ : St} {H : Hp} {s : Shared} (I : Inv X pins σ H s) : interactive X.env = false := by simp [interactive, I.ok.kind]
/-- an expression whose value is dropped -/
def tDrop (te : TE) : TS := fun D σ H => te σ H fun _ H1 => D.nx σ H1
theorem ps_expr (he : PE X e te) (hs : swapsWith e none pos.line X.env = pure false := by rfl) : PS X (.Expr e pos) (tDrop te) := by
  intro pins s σ H D I h
  exact wpAny_Expr_any (thn (he pins s σ H _ I h) fun v s1 ⟨x, H1, I1, r1, q1⟩ => ⟨σ, H1, I1, q1⟩) I.quiet hs
def tRet (te : TE) : TS := fun D σ H => te σ H D.rt
theorem ps_ret (he : PE X e te) : PS X (.Return (some e) pos) (tRet te) := by
  intro pins s σ H D I h
  exact wpAny_Return_some (thn (he pins s σ H _ I h) fun v s1 ⟨x, H1, I1, r1, q1⟩ => ⟨x, σ, H1, I1, r1, q1⟩)
def tIfS (c : TT) (t u : TS) : TS := fun D σ H => c σ H fun b H1 => if b = true then t D σ H1 else u D σ H1
theorem ps_if {c : Expr} {a b : List Stmt} {tc : TT} (hc : PT X c tc) (ha : PSs X a t) (hb : PSs X b u) : PS X (.If c a b pos) (tIfS tc t u) := by
  intro pins s σ H D I h
  refine wpAny_If (thn (hc pins s σ H _ I h) fun d s1 ⟨H1, I1, q1⟩ => ?_)
  cases d with
  | true => exact ha pins s1 σ H1 D I1 q1
  | false => exact hb pins s1 σ H1 D I1 q1
/-- code that the proof never comes to -/
def tNever : TS := fun _ _ _ => False
theorem ps_never : PS X st tNever := fun _ _ _ _ _ _ h => h.elim
theorem pss_never {sts : List Stmt} : PSs X sts tNever := fun _ _ _ _ _ _ h => h.elim
end

/-! ### targets -/
abbrev TG := V → St → Hp → (St → Hp → Prop) → Prop
abbrev TGs := List V → St → Hp → (St → Hp → Prop) → Prop
def PG (X : Cx) (target : Expr) (t : TG) : Prop :=
  ∀ (pins : List (Addr × Obj)) (s : Shared) (σ : St) (H : Hp) (v : V) (u : Value) (Q : St → Hp → Prop), Inv X pins σ H s → RelV v u → t v σ H Q →
    wpAny (model X.prog X.w) X.A (assign target X.env u) (fun _ s' => ∃ σ' H', Inv X pins σ' H' s' ∧ Q σ' H') X.xe s
/-- several targets, one after another -/
def PGs (X : Cx) (ts : List Expr) (t : TGs) : Prop :=
  ∀ (pins : List (Addr × Obj)) (s : Shared) (σ : St) (H : Hp) (vs : List V) (us : List Value) (Q : St → Hp → Prop), Inv X pins σ H s → Vals vs us → t vs σ H Q →
    wpAny (model X.prog X.w) X.A (assignInOrder ((assignEach ts X.env).map (·.2)) us) (fun _ s' => ∃ σ' H', Inv X pins σ' H' s' ∧ Q σ' H') X.xe s
/-- o[i] = v, by values -/
abbrev TSet := V → V → V → Hp → (Hp → Prop) → Prop
def PSet (X : Cx) (t : TSet) : Prop :=
  ∀ (pins : List (Addr × Obj)) (s : Shared) (σ : St) (H : Hp) (o i v : V) (ov iv u : Value) (Q : Hp → Prop), Inv X pins σ H s → RelV o ov → RelV i iv → RelV v u → t o i v H Q →
    wpAny (model X.prog X.w) X.A (setItem ov iv u) (fun _ s' => ∃ H', Inv X pins σ H' s' ∧ Q H') X.xe s
/-- a op= b, by values -/
abbrev TIp := V → V → Hp → VK → Prop
def PIp (X : Cx) (op : Operator) (t : TIp) : Prop :=
  ∀ (pins : List (Addr × Obj)) (s : Shared) (σ : St) (H : Hp) (x y : V) (v u : Value) (Q : VK), Inv X pins σ H s → RelV x v → RelV y u → t x y H Q →
    wpAny (model X.prog X.w) X.A (inplaceOp op v u) (EP X pins σ Q) X.xe s
section
variable {X : Cx} {pos : Pos}
def gName (i : Nat) : TG := fun v σ H Q => Q (σ.set i (some v)) H
theorem pg_name {i : Nat} {x : Str} (hN : X.N.Nodup) (hi : X.N[i]? = some x) (hx : Loc X.env.scope x) (hf : X.fn x = true ∨ X.env.scope.names.lookup x = some .local := by first | exact .inl rfl | exact .inr rfl | assumption) : PG X (.Name x pos) (gName i) := by
  intro pins s σ H v u Q I r h
  exact wpAny_assign_Name (store_ok I hN hi hx r (fun s' I' => ⟨_, H, I', h⟩) hf)
def gNil : TGs := fun vs σ H Q => vs = [] ∧ Q σ H
def gCons (t : TG) (u : TGs) : TGs := fun vs σ H Q => ∃ v r, vs = v :: r ∧ t v σ H fun σ' H' => u r σ' H' Q
theorem pgs_nil : PGs X [] gNil := by
  intro pins s σ H vs us Q I r h
  obtain ⟨e, h⟩ := h
  subst e
  cases r
  exact assignInOrder_nil ⟨σ, H, I, h⟩
theorem pgs_cons {e : Expr} {es : List Expr} {t : TG} {u : TGs} (h1 : PG X e t) (h2 : PGs X es u)
    (hs : (assignEach (e :: es) X.env).map (·.2) = assign e X.env :: (assignEach es X.env).map (·.2) := by rfl) : PGs X (e :: es) (gCons t u) := by
  intro pins s σ H vs us Q I r h
  obtain ⟨v, vr, e1, h⟩ := h
  subst e1
  cases r with
  | cons r rr =>
    rw [hs]
    refine assignInOrder_cons (thn (h1 pins s σ H _ _ _ I r h) fun _ s1 ⟨σ1, H1, I1, q1⟩ => ?_)
    exact h2 pins s1 σ1 H1 _ _ Q I1 rr q1
/-- (a, b, ..) = a tuple of that length -/
def gTup (K : PySem.W.Frag) (n : Nat) (t : TGs) : TG := fun v σ H Q => ∃ a xs, v = .ref a ∧ SqT K H a xs ∧ xs.length = n ∧ t xs σ H Q
theorem pg_tup {es : List Expr} {k : Nat} {t : TGs} {n : Nat} (hc : X.calm = true) (h : PGs X es t)
    (hn : (assignEach es X.env).length = n := by rfl) (hst : (assignEach es X.env).findIdx? (·.1) = none := by rfl) : PG X (.Tuple es k pos) (gTup X.K n t) := by
  intro pins s σ H v u Q I r hw
  obtain ⟨a, xs, e1, hq, hl, hw⟩ := hw
  subst e1
  cases r
  obtain ⟨its, rv, ht, hz⟩ := I.tuple hq
  refine assign_Tuple_tuple (I.ok.hd hc) ht (by simp [hn, ← hl, rv.length]) hst fun h' hx => ?_
  have I1 : Inv X pins σ H { s with heap := h' } := I.kept (t' := s.toks) fun b o e => hx b o (Nat.ne_of_lt (Heap.lt_size e)) e
  exact h pins _ σ H xs _ Q I1 (by simpa using rv) hw
/-- o[i] = .. -/
def gSub (to ti : TE) (t : TSet) : TG := fun v σ H Q => to σ H fun o H1 => ti σ H1 fun i H2 => t o i v H2 fun H3 => Q σ H3
theorem pg_sub {o i : Expr} {to ti : TE} {t : TSet} (ho : PE X o to) (hi : PE X i ti) (hs : PSet X t)
    (ha : ∀ v, assign (.Subscript o i pos) X.env v = (do
      let ov ← holding [v] (eval o X.env)
      let iv ← holding [v, ov] (eval i X.env)
      standAt pos
      holding [v, ov, iv] (setItem ov iv v)
      release [v, ov, iv] []) := by intro _; rfl) : PG X (.Subscript o i pos) (gSub to ti t) := by
  intro pins s σ H v u Q I r h
  rw [ha]
  refine wpAny_bind (wpAny_holding (thn (ho pins s σ H _ I h) fun ov s1 ⟨x, H1, I1, r1, q1⟩ => ?_))
  refine wpAny_bind (wpAny_holding (thn (hi pins s1 σ H1 _ I1 q1) fun iv s2 ⟨y, H2, I2, r2, q2⟩ => ?_))
  refine wpAny_bind (wpAny_standAt (wpAny_bind (wpAny_holding (thn (hs pins s2 σ H2 x y v ov iv u _ I2 r1 r2 r q2) fun _ s3 ⟨H3, I3, q3⟩ => ?_))))
  exact wpAny_release ⟨σ, H3, I3, q3⟩
/-- target = value -/
def tAsg (te : TE) (g : TG) : TS := fun D σ H => te σ H fun x H1 => g x σ H1 D.nx
theorem ps_asg {tg e : Expr} {te : TE} {g : TG} (he : PE X e te) (hg : PG X tg g) (hs : swapsWithSole [tg] e pos.line X.env = pure false := by rfl) (hw : swappedStores [tg] e X.env = pure none := by rfl)
    (h1 : (assignEach [tg] X.env).map (·.2) = [assign tg X.env] := by rfl) : PS X (.Assign [tg] e pos) (tAsg te g) := by
  intro pins s σ H D I h
  refine wpAny_Assign_stores (thn (he pins s σ H _ I h) fun v s1 ⟨x, H1, I1, r1, q1⟩ => ?_) hs hw
  rw [h1]
  exact thn (hg pins s1 σ H1 x v _ I1 r1 q1) fun _ s2 q => q
/-- name = value -/
theorem ps_set {i : Nat} {x : Str} {e : Expr} {te : TE} {pos' : Pos} (hN : X.N.Nodup) (hi : X.N[i]? = some x) (hx : Loc X.env.scope x) (he : PE X e te) (hs : swapsWith e (some (.Name x pos')) pos.line X.env = pure false := by rfl) (hf : X.fn x = true ∨ X.env.scope.names.lookup x = some .local := by first | exact .inl rfl | exact .inr rfl | assumption) :
    PS X (.Assign [.Name x pos'] e pos) (tAsg te (gName i)) := by
  intro pins s σ H D I h
  refine wpAny_Assign_Name (thn (he pins s σ H _ I h) fun v s1 ⟨y, H1, I1, r1, q1⟩ => ?_) hs
  exact store_ok I1 hN hi hx r1 (fun s2 I2 => ⟨_, H1, I2, q1⟩) hf
/-- name op= e -/
def tAug (i : Nat) (te : TE) (ti : TIp) : TS := fun D σ H => ∃ x, σ[i]? = some (some x) ∧ te σ H fun y H1 => ti x y H1 fun z H2 => D.nx (σ.set i (some z)) H2
theorem ps_aug {i : Nat} {x : Str} {e : Expr} {te : TE} {op : Operator} {ti : TIp} {pos' : Pos} (hN : X.N.Nodup) (hi : X.N[i]? = some x) (hx : Loc X.env.scope x) (he : PE X e te) (ho : PIp X op ti) (hf : X.fn x = true ∨ X.env.scope.names.lookup x = some .local := by first | exact .inl rfl | exact .inr rfl | assumption) :
    PS X (.AugAssign (.Name x pos') op e pos) (tAug i te ti) := by
  intro pins s σ H D I h
  obtain ⟨v, e1, h⟩ := h
  obtain ⟨m, hn, hl⟩ := I.loc
  have vis : Vis X.env.scope x := by rcases hx with k | k; exact .inl k; exact .inr (.inl k)
  obtain ⟨u, r, l⟩ := hl i x v hi e1 vis
  refine wpAny_AugAssign_Name ?_
  have go : wpAny (model X.prog X.w) X.A (eval e X.env) (fun w s₂ => wpAny (model X.prog X.w) X.A (inplaceOp op u w) (fun r s₃ => wpAny (model X.prog X.w) X.A (storeName X.env x r) (fun _ => SP X pins D .next) X.xe s₃) X.xe s₂) X.xe s := by
    refine thn (he pins s σ H _ I h) fun w s1 ⟨y, H1, I1, r1, q1⟩ => ?_
    refine thn (ho pins s1 σ H1 v y u w _ I1 r r1 q1) fun z s2 ⟨zv, H2, I2, r2, q2⟩ => ?_
    exact store_ok I2 hN hi hx r2 (fun s3 I3 => ⟨_, H2, I3, q2⟩) hf
  rcases l with ⟨hk, hm⟩ | ⟨hk, c, hc, hcell⟩
  · exact wpAny_loadName_local I.ok.kind hk hn hm go
  · rcases hk with hk | hk
    · exact wpAny_loadName_cell I.ok.kind hk hc hcell go
    · rcases hx with k | k
      · have : X.env.scope.names.lookup x = some .free := hk
        rw [k] at this; cases this
      · have : X.env.scope.names.lookup x = some .free := hk
        rw [k] at this; cases this
/-- ints -/
def ipI (f : Int → Int → Int) : TIp := fun x y H Q => ∃ i j, x = .int i ∧ y = .int j ∧ Q (.int (f i j)) H
theorem ip_add : PIp X .Add (ipI fun i j => i + j) := by
  intro pins s σ H x y v u Q I r1 r2 h
  obtain ⟨i, j, e1, e2, q⟩ := h
  subst e1; subst e2
  obtain ⟨t, rfl⟩ := r1
  obtain ⟨t', rfl⟩ := r2
  exact iadd_int ⟨.int _, H, I.tok _, ⟨_, rfl⟩, q⟩
end

/-! ### while -/
section
variable {X : Cx} {pos : Pos}
/-- the invariant W with its measure -/
def tWhile (c : TT) (tb : TS) : TS := fun D σ H => ∃ W : Nat → St → Hp → Prop, (∃ m, W m σ H) ∧ ∀ m σ H, W m σ H →
  c σ H fun b H1 => if b = true then ∃ N : St → Hp → Prop, (∀ σ' H', N σ' H' → ∃ m', m' < m ∧ W m' σ' H') ∧ tb { D with nx := N, ct := N, bk := D.nx } σ H1 else D.nx σ H1
theorem ps_while {c : Expr} {body : List Stmt} {tc : TT} {tb : TS} (hp : PassesOwn (model X.prog X.w) X.A X.env X.xe) (hc : PT X c tc) (hb : PSs X body tb) : PS X (.While c body [] pos) (tWhile tc tb) := by
  intro pins s σ H D I h
  obtain ⟨W, ⟨m0, w0⟩, turn⟩ := h
  refine wpAny_While (codeAny_whileLoop (fun n s' => ∃ σ' H', Inv X pins σ' H' s' ∧ W n σ' H') ?_ m0 ⟨σ, H, I, w0⟩)
  rintro n s1 ⟨σ1, H1, I1, w1⟩
  refine wpAny_passesOwn hp (thn (hc pins s1 σ1 H1 _ I1 (turn n σ1 H1 w1)) fun b s2 ⟨H2, I2, q2⟩ => ?_)
  cases b with
  | true =>
    obtain ⟨N, hN, q2⟩ := q2
    rw [if_pos rfl]
    refine wpAny_passesOwn hp (thn (hb pins s2 σ1 H2 _ I2 q2) fun f s3 q3 => ?_)
    cases f with
    | next =>
      obtain ⟨σ3, H3, I3, n3⟩ := q3
      obtain ⟨m', hm, w3⟩ := hN σ3 H3 n3
      exact ⟨m', hm, σ3, H3, I3, w3⟩
    | cont =>
      obtain ⟨σ3, H3, I3, n3⟩ := q3
      obtain ⟨m', hm, w3⟩ := hN σ3 H3 n3
      exact ⟨m', hm, σ3, H3, I3, w3⟩
    | brk => exact q3
    | ret v => exact q3
  | false =>
    rw [if_neg Bool.false_ne_true]
    exact wpAny_execs_nil ⟨σ1, H2, I2, q2⟩
end

/-! ### what a loop or a comprehension walks -/
/-- at turn i: it yields x (the heap may grow), or it stops -/
structure It where
  go : Nat → Hp → Prop
  yld : Nat → Hp → V → Hp → Prop
  stop : Nat → Hp → Prop
/-- the iterator's own objects may turn: they are not the frame's, not pinned, younger than the entry (or a comprehension's own) -/
def FpOk (X : Cx) (pins : List (Addr × Obj)) (H : Hp) (b : Addr) : Prop :=
  H b = none ∧ b ≠ X.env.locals ∧ b ∉ X.fs ∧ (b ∈ X.ex ∨ X.s₀.heap.objs.size ≤ b) ∧ (∀ x c, X.env.cells.lookup x = some c → c ≠ b) ∧ ∀ p ∈ X.pn ++ pins, p.1 ≠ b
theorem Inv.fpOk {X : Cx} {pins : List (Addr × Obj)} {σ : St} {H H' : Hp} {s : Shared} {b : Addr} (I : Inv X pins σ H s) (hb : s.heap.objs.size ≤ b) (hn : H' b = none) : FpOk X pins H' b := by
  refine ⟨hn, Nat.ne_of_gt (Nat.lt_of_lt_of_le I.lt hb), I.nofs hb, .inr (Nat.le_trans I.sz hb), fun x c e z => ?_, fun p hp z => ?_⟩
  · obtain ⟨v, q⟩ := I.cell x c e
    exact absurd (Nat.lt_of_lt_of_le q.lt (by rw [z]; exact hb)) (Nat.lt_irrefl _)
  · exact absurd (Nat.lt_of_lt_of_le (Heap.lt_size (I.pin p hp).1) (by rw [z]; exact hb)) (Nat.lt_irrefl _)
structure Turn (P : Program) (w : World) (K : PySem.W.Frag) (tg : Expr) (J : It) (fp : List Addr) (it : Addr) (tn : Nat → Heap → Prop) : Prop where
  mem : it ∈ fp
  obj : ∀ i h, tn i h → ∀ b ∈ fp, ∃ o, h.get? b = some o ∧ ∀ v, o.data ≠ .cell v
  keep : ∀ i h h', tn i h → (∀ b ∈ fp, ∀ o, h.get? b = some o → h'.get? b = some o) → tn i h'
  item : ∀ (X : Cx), X.prog = P → X.w = w → X.K = K → X.calm = true → ∀ (i : Nat) (pins : List (Addr × Obj)) (s : Shared) (σ : St) (H : Hp) (E : Value → Shared → Prop), Inv X pins σ H s → (∀ b ∈ fp, FpOk X pins H b) → tn i s.heap → J.go i H →
    wpAny (model P w) X.A (pyNext (.ref it)) (fun r s1 => ∃ u, r = some u ∧
      wpAny (model P w) X.A (letOwnedTupleGo tg (.ref it) u) (fun _ s2 => ∃ x H', Inv X pins σ H' s2 ∧ RelV x u ∧ J.yld i H x H' ∧ tn (i + 1) s2.heap ∧ ∀ b ∈ fp, H' b = none) E s1) E s
  done : ∀ (X : Cx), X.prog = P → X.w = w → X.K = K → X.calm = true → ∀ (i : Nat) (pins : List (Addr × Obj)) (s : Shared) (σ : St) (H : Hp) (E : Value → Shared → Prop), Inv X pins σ H s → (∀ b ∈ fp, FpOk X pins H b) → tn i s.heap → J.stop i H →
    wpAny (model P w) X.A (pyNext (.ref it)) (fun r s1 => r = none ∧ Inv X pins σ H s1) E s
  self : ∀ (A : Around) (i : Nat) (s : Shared) (Q : Value → Shared → Prop) (E : Value → Shared → Prop), tn i s.heap → Q (.ref it) s → wpAny (model P w) A (pyIter (.ref it)) Q E s
abbrev TI := St → Hp → (It → Hp → Prop) → Prop
/-- an iterator has come -/
def PIE (X : Cx) (pins : List (Addr × Obj)) (σ : St) (tg : Expr) (R : It → Hp → Prop) (itv : Value) (s2 : Shared) : Prop :=
  ∃ (it : Addr) (fp : List Addr) (tn : Nat → Heap → Prop) (J : It) (H' : Hp), itv = .ref it ∧ Inv X pins σ H' s2 ∧ Turn X.prog X.w X.K tg J fp it tn ∧ tn 0 s2.heap ∧ (∀ b ∈ fp, FpOk X pins H' b) ∧ R J H'
def PI (X : Cx) (tg iter : Expr) (wi : TI) : Prop :=
  ∀ (pins : List (Addr × Obj)) (s : Shared) (σ : St) (H : Hp) (R : It → Hp → Prop), Inv X pins σ H s → wi σ H R →
    wpAny (model X.prog X.w) X.A (eval iter X.env) (fun v s1 => wpAny (model X.prog X.w) X.A (pyIter v) (PIE X pins σ tg R) X.xe s1) X.xe s

/-- the step ahead of the store is nothing for an iterator that keeps no tuple -/
theorem go_of {M : Model} {A : Around} {E : Value → Shared → Prop} {s : Shared} {tg : Expr} {it : Addr} {u : Value} {o : Obj} {n : String} {vs : Array Value} {Q : Unit → Shared → Prop} (ho : s.heap.get? it = some o) (hc : o.cls = .type n) (hd : o.data = .fields vs)
    (hn : ["enumerate", "zip", "dict_itemiterator", "dict_reverseitemiterator", "odict_iterator", "itertools.zip_longest", "itertools.pairwise"].contains n = false) (hQ : Q () s) : wpAny M A (letOwnedTupleGo tg (.ref it) u) Q E s := by
  unfold letOwnedTupleGo
  cases tg <;> first
    | exact wpAny_pure hQ
    | (cases u <;> first
        | exact wpAny_pure hQ
        | (refine wpAny_bind (wpAny_load ho ?_)
           rw [hc, hd]
           show wpAny M A (if (["enumerate", "zip", "dict_itemiterator", "dict_reverseitemiterator", "odict_iterator", "itertools.zip_longest", "itertools.pairwise"].contains n && vs[0]? == some (rawInt _)) = true then _ else _) Q E s
           rw [if_neg (by intro h; rw [hn, Bool.false_and] at h; cases h)]
           exact wpAny_pure hQ))

/-- the list at a, as it stands at each turn (a loop may append to it) -/
def Itl (K : PySem.W.Frag) (a : Addr) : It :=
  ⟨fun i H => ∃ xs x, SqL K H a xs ∧ xs[i]? = some x, fun i H x H' => H' = H ∧ ∀ xs, SqL K H a xs → xs[i]? = some x, fun i H => ∃ xs, SqL K H a xs ∧ xs.length ≤ i⟩
/-- lo, lo + 1, .. (n of them) -/
def Itr (lo : Int) (n : Nat) : It := ⟨fun i _ => i < n, fun i H x H' => H' = H ∧ x = .int (lo + i), fun i _ => n ≤ i⟩
theorem turn_list {P : Program} {w : World} {K : PySem.W.Frag} {tg : Expr} (a it : Addr) : Turn P w K tg (Itl K a) [it] it (fun i h => h.IsListIter it a i) where
  mem := by simp
  obj := fun i h st b hb => by
    have e : b = it := by simpa using hb
    subst e
    obtain ⟨o, e, c, d⟩ := st
    exact ⟨o, e, fun v z => by rw [d] at z; cases z⟩
  keep := fun i h h' st k => st.at fun o e => k it (by simp) o e
  item := by
    intro X hP hw hK hc i pins s σ H E I hf st hg
    subst hP hw hK
    obtain ⟨xs, x, hq, hx⟩ := hg
    obtain ⟨its, rv, p, hz⟩ := I.list hq
    obtain ⟨u, hu, ru⟩ := rv.get hx
    obtain ⟨f0, f1, f2, f3, f4, f5⟩ := hf it (by simp)
    refine wpAny_pyNext_list_item st p.isList (x := u) (by simpa using hu) fun h' st' sb => ?_
    have I1 : Inv X pins σ H { s with heap := h' } := I.turned (t' := s.toks) (fun b o hb e => (sb.2 b hb).trans e) f0 f1 f3 f4 f5
    obtain ⟨o, e, c, d⟩ := id st'
    exact ⟨u, rfl, go_of (s := { s with heap := h' }) e c d (by decide) ⟨x, H, I1, ru, ⟨rfl, fun ys hy => by rw [I.list_inj hy hq]; exact hx⟩, st', fun b hb => (hf b hb).1⟩⟩
  done := by
    intro X hP hw hK hc i pins s σ H E I hf st hg
    subst hP hw hK
    obtain ⟨xs, hq, hx⟩ := hg
    obtain ⟨its, rv, p, hz⟩ := I.list hq
    obtain ⟨f0, f1, f2, f3, f4, f5⟩ := hf it (by simp)
    have hl := rv.length
    exact wpAny_pyNext_list_end (I.ok.hd hc) st p.isList (by simp; omega) fun h' eb => ⟨rfl, I.turned (t' := s.toks) (fun b o hb e => eb b o hb e) f0 f1 f3 f4 f5⟩
  self := fun _ _ _ _ _ st h => wpAny_pyIter_listiter st h
theorem turn_range {P : Program} {w : World} {K : PySem.W.Frag} {tg : Expr} (it : Addr) (lo : Int) (n : Nat) : Turn P w K tg (Itr lo n) [it] it (fun i h => IsRangeIter h it (lo + (i : Nat) * 1) ((n : Int) - (i : Nat)) 1) where
  mem := by simp
  obj := fun i h st b hb => by
    have e : b = it := by simpa using hb
    subst e
    exact ⟨_, st, fun v z => by
      have z' : Data.fields _ = Data.cell v := z
      cases z'⟩
  keep := fun i h h' st k => k it (by simp) _ st
  item := by
    intro X hP hw hK hc i pins s σ H E I hf st hg
    subst hP hw hK
    obtain ⟨f0, f1, f2, f3, f4, f5⟩ := hf it (by simp)
    have W := Walks.range (prog := X.prog) (w := X.w) (I.ok.hd hc) it lo 1 n
    refine W.item i s _ _ hg st fun v h' tk hv st' kk => ?_
    obtain ⟨t, rfl⟩ := hv
    have I1 : Inv X pins σ H { s with heap := h', toks := tk } := I.turned (fun b o hb e => kk b o (by simpa using hb) e) f0 f1 f3 f4 f5
    refine ⟨_, rfl, go_of (s := { s with heap := h', toks := tk }) (n := "range_iterator") st' rfl rfl (by decide) ⟨.int (lo + i), H, I1, ⟨t, ?_⟩, ⟨rfl, rfl⟩, st', fun b hb => (hf b hb).1⟩⟩
    rw [Int.mul_one]
  done := by
    intro X hP hw hK hc i pins s σ H E I hf st hg
    subst hP hw hK
    obtain ⟨f0, f1, f2, f3, f4, f5⟩ := hf it (by simp)
    exact wpAny_pyNext_range_end (I.ok.hd hc) st (by have : n ≤ i := hg; omega) fun h' eb => ⟨rfl, I.turned (t' := s.toks) (fun b o hb e => eb b o hb e) f0 f1 f3 f4 f5⟩
  self := fun _ _ _ _ _ st h => wpAny_pyIter_rangeiter st h
end L2

namespace L2
open PySem PySem.Spec PyProof.Rows
section
variable {X : Cx} {tg : Expr}
def iList (K : PySem.W.Frag) (tl : TE) : TI := fun σ H R => tl σ H fun x H1 => ∃ a, x = .ref a ∧ (∃ xs, SqL K H1 a xs) ∧ R (Itl K a) H1
theorem pi_list {l : Expr} {tl : TE} (hl : PE X l tl) : PI X tg l (iList X.K tl) := by
  intro pins s σ H R I h
  refine thn (hl pins s σ H _ I h) fun v s1 ⟨x, H1, I1, r1, q1⟩ => ?_
  obtain ⟨a, e, ⟨xs, hq⟩, q⟩ := q1
  subst e
  cases r1
  obtain ⟨its, rv, p, hz⟩ := I1.list hq
  refine wpAny_pyIter_list p.isList ?_
  refine ⟨s1.heap.objs.size, [s1.heap.objs.size], _, _, H1, rfl, I1.kept (t' := s1.toks) fun b o e => Heap.get?_push_of_some _ e, turn_list a _, ⟨_, Heap.get?_push_size _ rfl, rfl, rfl⟩, fun b hb => ?_, q⟩
  have e : b = s1.heap.objs.size := by simpa using hb
  subst e
  exact I1.fpOk (Nat.le_refl _) (I1.hok.fresh (Nat.le_refl _))
/-- a range object just made, walked -/
theorem range_it {pins : List (Addr × Obj)} {σ : St} {H : Hp} {s : Shared} {R : It → Hp → Prop} {E : Value → Shared → Prop} {lo hi : Int} {t u v : Tok} {tk : Nat} (I : Inv X pins σ H s) (h1 : -(2 ^ 62) ≤ lo) (h2 : lo < 2 ^ 62) (h3 : -(2 ^ 62) ≤ hi) (h4 : hi < 2 ^ 62)
    (q : R (Itr lo (hi - lo).toNat) H) : wpAny (model X.prog X.w) X.A (pyIter (.ref s.heap.objs.size)) (PIE X pins σ tg R) E { s with heap := s.heap.push { cls := .type "range", data := .fields #[.int lo t, .int hi u, .int 1 v] }, toks := tk } := by
  refine wpAny_pyIter_range (IsRange.new ..) (small_one h1 h2 h3 h4) ?_
  have I1 : Inv X pins σ H { s with heap := s.heap.push { cls := .type "range", data := .fields #[.int lo t, .int hi u, .int 1 v] }, toks := tk } := I.kept fun b o e => Heap.get?_push_of_some _ e
  refine ⟨(s.heap.push { cls := .type "range", data := .fields #[.int lo t, .int hi u, .int 1 v] }).objs.size, [(s.heap.push { cls := .type "range", data := .fields #[.int lo t, .int hi u, .int 1 v] }).objs.size], _, _, H, rfl,
    I1.kept (t' := tk) fun b o e => Heap.get?_push_of_some _ e, turn_range _ lo (hi - lo).toNat, ?_, fun b hb => ?_, q⟩
  · have e1 : lo + ((0 : Nat) : Int) * 1 = lo := by simp
    have e2 : (((hi - lo).toNat : Nat) : Int) - ((0 : Nat) : Int) = Builtin.Range.rangeSize lo hi 1 := by rw [rangeSize_one]; split <;> omega
    show IsRangeIter _ _ (lo + ((0 : Nat) : Int) * 1) ((((hi - lo).toNat : Nat) : Int) - ((0 : Nat) : Int)) 1
    rw [e1, e2]
    exact Heap.get?_push_size _ rfl
  · have e : b = (s.heap.push { cls := .type "range", data := .fields #[.int lo t, .int hi u, .int 1 v] }).objs.size := by simpa using hb
    subst e
    exact I1.fpOk (Nat.le_refl _) (I1.hok.fresh (Nat.le_refl _))
def iRng1 (ta : TA) : TI := fun σ H R => ta σ H fun vs H1 => ∃ j : Int, vs = [.int j] ∧ -(2 ^ 62) ≤ j ∧ j < 2 ^ 62 ∧ R (Itr 0 j.toNat) H1
def iRng2 (ta : TA) : TI := fun σ H R => ta σ H fun vs H1 => ∃ i j : Int, vs = [.int i, .int j] ∧ (-(2 ^ 62) ≤ i ∧ i < 2 ^ 62 ∧ -(2 ^ 62) ≤ j ∧ j < 2 ^ 62) ∧ R (Itr i (j - i).toNat) H1
theorem pi_range1 {a : Expr} {ta : TA} {p pos : Pos} (hg : Gl X "range") (hm : X.mg "range" = none) (ha : PA X [a] ta) (hs : starEach [a] X.env = [(false, eval a X.env)] := by rfl) : PI X tg (.Call (.Name "range" p) [a] [] pos) (iRng1 ta) := by
  intro pins s σ H R I h
  refine Call_ (ld_blt I hg hm boot_range (PyProof.Rows.callWith_type1 (thn (ha pos pins s σ H _ I h) fun us s1 ⟨vs, H1, I1, r1, q1⟩ => ?_) hs rfl))
  obtain ⟨j, e, q1, q2, q⟩ := q1
  subst e
  cases r1 with
  | cons r rr =>
    cases rr
    obtain ⟨t, rfl⟩ := r
    exact call_range_1 (range_it I1 (by omega) (by omega) q1 q2 (by simpa using q))
theorem pi_range2 {a b : Expr} {ta : TA} {p pos : Pos} (hg : Gl X "range") (hm : X.mg "range" = none) (ha : PA X [a, b] ta) (hs : starEach [a, b] X.env = [(false, eval a X.env), (false, eval b X.env)] := by rfl) (hs2 : starEach [b] X.env = [(false, eval b X.env)] := by rfl) :
    PI X tg (.Call (.Name "range" p) [a, b] [] pos) (iRng2 ta) := by
  intro pins s σ H R I h
  refine Call_ (ld_blt I hg hm boot_range (PyProof.Rows.callWith_type1 (thn (ha pos pins s σ H _ I h) fun us s1 ⟨vs, H1, I1, r1, q1⟩ => ?_) (by rw [hs, hs2]) (by rw [hs2]; rfl)))
  obtain ⟨i, j, e, ⟨q1, q2, q3, q4⟩, q⟩ := q1
  subst e
  cases r1 with
  | cons r rr =>
    cases rr with
    | cons r' rr =>
      cases rr
      obtain ⟨t, rfl⟩ := r
      obtain ⟨t', rfl⟩ := r'
      exact call_range_2 (range_it I1 q1 q2 q3 q4 q)

/-! ### for -/
/-- W: the invariant by the turn and a measure; N: what the body is to reach -/
def tFor (wi : TI) (g : TG) (tb : TS) : TS := fun D σ H => wi σ H fun J H1 => ∃ W : Nat → Nat → St → Hp → Prop, (∃ m, W 0 m σ H1) ∧ ∀ i m σ H, W i m σ H →
  (J.stop i H ∧ D.nx σ H) ∨ (J.go i H ∧ ∃ N : St → Hp → Prop, (∀ σ' H', N σ' H' → ∃ m', m' < m ∧ W (i + 1) m' σ' H') ∧ ∀ x H', J.yld i H x H' → g x σ H' fun σ2 H2 => tb { D with nx := N, ct := N, bk := D.nx } σ2 H2)
/-- the records at fp as they stand -/
def pinsAt (fp : List Addr) (h : Heap) : List (Addr × Obj) := fp.filterMap fun b => (h.get? b).map fun o => (b, o)
theorem mem_pinsAt {fp : List Addr} {h : Heap} {b : Addr} {o : Obj} (hb : b ∈ fp) (e : h.get? b = some o) : (b, o) ∈ pinsAt fp h := List.mem_filterMap.mpr ⟨b, hb, by rw [e]; rfl⟩
theorem of_pinsAt {fp : List Addr} {h : Heap} {p : Addr × Obj} (hp : p ∈ pinsAt fp h) : p.1 ∈ fp ∧ h.get? p.1 = some p.2 := by
  obtain ⟨b, hb, e⟩ := List.mem_filterMap.mp hp
  cases q : h.get? b with
  | none => rw [q] at e; cases e
  | some o =>
    rw [q] at e
    have e' : (b, o) = p := Option.some.inj e
    subst e'
    exact ⟨hb, q⟩
theorem Inv.pinned {pins : List (Addr × Obj)} {σ : St} {H : Hp} {s : Shared} {fp : List Addr} (I : Inv X pins σ H s) (hf : ∀ b ∈ fp, FpOk X pins H b) (ho : ∀ b ∈ fp, ∃ o, s.heap.get? b = some o ∧ ∀ v, o.data ≠ .cell v) : Inv X (pins ++ pinsAt fp s.heap) σ H s :=
  I.pins_of fun p hp => (List.mem_append.mp hp).elim (fun z => I.pin p (List.mem_append_right _ z)) fun z => by
    obtain ⟨hb, e⟩ := of_pinsAt z
    obtain ⟨f0, f1, f2, _⟩ := hf p.1 hb
    obtain ⟨o, e', d⟩ := ho p.1 hb
    rw [e] at e'; cases e'
    exact ⟨e, f0, f1, f2, d⟩
theorem Inv.unpinned {pins pl : List (Addr × Obj)} {σ : St} {H : Hp} {s : Shared} (I : Inv X (pins ++ pl) σ H s) : Inv X pins σ H s := I.pins_of fun p hp => I.pin p (List.mem_append_right _ (List.mem_append_left _ hp))
theorem ps_for {iter : Expr} {body : List Stmt} {wi : TI} {g : TG} {tb : TS} {pos : Pos} (hp : PassesOwn (model X.prog X.w) X.A X.env X.xe) (hc : X.calm = true) (hi : PI X tg iter wi) (hg : PG X tg g) (hb : PSs X body tb)
    (hs : ∀ x, foldedSetIterable iter X.env x = pure x := by intro _; rfl) : PS X (.For tg iter body [] pos) (tFor wi g tb) := by
  intro pins s σ H D I h
  refine wpAny_For (thn (hi pins s σ H _ I h) fun v s1 h1 => thn h1 fun itv s2 h2 => ?_) hs
  obtain ⟨it, fp, tn, J, H2, e, I2, T, st2, f2, W, ⟨m0, w0⟩, turn⟩ := h2
  subst e
  -- what stays true of the iterator's objects through the loop
  have stat : ∀ {H' : Hp}, (∀ b ∈ fp, H' b = none) → ∀ b ∈ fp, FpOk X pins H' b := fun hn b hb => ⟨hn b hb, (f2 b hb).2⟩
  refine codeAny_forLoop_any (fun n s' => ∃ i σ' H', Inv X pins σ' H' s' ∧ tn i s'.heap ∧ (∀ b ∈ fp, H' b = none) ∧ W i n σ' H') ?_ m0 ⟨0, σ, H2, I2, st2, fun b hb => (f2 b hb).1, w0⟩
  rintro n s3 ⟨i, σ3, H3, I3, st3, fr3, w3⟩
  rcases turn i n σ3 H3 w3 with ⟨stop, qn⟩ | ⟨go, N, hN, step⟩
  · refine wpAny_passesOwn hp (thn (T.done X rfl rfl rfl hc i pins s3 σ3 H3 X.xe I3 (stat fr3) st3 stop) fun r s4 ⟨hr, I4⟩ => ?_)
    subst hr
    exact wpAny_execs_nil ⟨σ3, H3, I4, qn⟩
  · refine wpAny_passesOwn hp (thn (T.item X rfl rfl rfl hc i pins s3 σ3 H3 X.xe I3 (stat fr3) st3 go) fun r s4 ⟨u, hr, h4⟩ => ?_)
    subst hr
    refine wpAny_passesOwn hp (thn h4 fun _ s5 ⟨x, H5, I5, r5, y5, st5, fr5⟩ => ?_)
    have I5' := I5.pinned (stat fr5) (T.obj _ _ st5)
    refine wpAny_passesOwn hp (thn (hg _ s5 σ3 H5 x u _ I5' r5 (step x H5 y5)) fun _ s6 ⟨σ6, H6, I6, q6⟩ => ?_)
    refine wpAny_passesOwn hp (thn (hb _ s6 σ6 H6 _ I6 q6) fun f s7 q7 => ?_)
    have again : ∀ {σ7 : St} {H7 : Hp}, Inv X (pins ++ pinsAt fp s5.heap) σ7 H7 s7 → N σ7 H7 → ∃ m, m < n ∧ ∃ i σ' H', Inv X pins σ' H' s7 ∧ tn i s7.heap ∧ (∀ b ∈ fp, H' b = none) ∧ W i m σ' H' := fun {σ7 H7} I7 n7 => by
      obtain ⟨m', hm, w7⟩ := hN σ7 H7 n7
      refine ⟨m', hm, i + 1, σ7, H7, I7.unpinned, T.keep _ _ _ st5 fun b hb o e => (I7.pin (b, o) (List.mem_append_right _ (List.mem_append_right _ (mem_pinsAt hb e)))).1, fun b hb => ?_, w7⟩
      obtain ⟨o, e, d⟩ := T.obj _ _ st5 b hb
      exact (I7.pin (b, o) (List.mem_append_right _ (List.mem_append_right _ (mem_pinsAt hb e)))).2.1
    cases f with
    | next => obtain ⟨σ7, H7, I7, n7⟩ := q7; exact again I7 n7
    | cont => obtain ⟨σ7, H7, I7, n7⟩ := q7; exact again I7 n7
    | brk => obtain ⟨σ7, H7, I7, q7⟩ := q7; exact ⟨σ7, H7, I7.unpinned, q7⟩
    | ret v => obtain ⟨x7, σ7, H7, I7, r7, q7⟩ := q7; exact ⟨x7, σ7, H7, I7.unpinned, r7, q7⟩
end

/-! ### the forms one uses -/
/-- over a list that the body leaves as it is -/
theorem for_list {K : PySem.W.Frag} {a : Addr} {xs : List V} {g : TG} {tb : TS} {D : Ends} {σ : St} {H : Hp} (Pv : Nat → St → Hp → Prop) (h0 : Pv 0 σ H) (hl : ∀ i σ H, i ≤ xs.length → Pv i σ H → SqL K H a xs)
    (hs : ∀ i x σ H, xs[i]? = some x → Pv i σ H → g x σ H fun σ2 H2 => tb { D with nx := Pv (i + 1), ct := Pv (i + 1), bk := D.nx } σ2 H2) (hd : ∀ σ H, Pv xs.length σ H → D.nx σ H) :
    ∃ W : Nat → Nat → St → Hp → Prop, (∃ m, W 0 m σ H) ∧ ∀ i m σ H, W i m σ H →
      ((Itl K a).stop i H ∧ D.nx σ H) ∨ ((Itl K a).go i H ∧ ∃ N : St → Hp → Prop, (∀ σ' H', N σ' H' → ∃ m', m' < m ∧ W (i + 1) m' σ' H') ∧ ∀ x H', (Itl K a).yld i H x H' → g x σ H' fun σ2 H2 => tb { D with nx := N, ct := N, bk := D.nx } σ2 H2) := by
  refine ⟨fun i m σ H => m = xs.length - i ∧ i ≤ xs.length ∧ Pv i σ H, ⟨xs.length, by simp, Nat.zero_le _, h0⟩, ?_⟩
  rintro i m σ H ⟨rfl, hi, p⟩
  have q := hl i σ H hi p
  by_cases hlt : i < xs.length
  · refine .inr ⟨⟨xs, xs[i], q, by simp [hlt]⟩, Pv (i + 1), fun σ' H' p' => ⟨xs.length - (i + 1), by omega, rfl, hlt, p'⟩, fun x H' y => ?_⟩
    obtain ⟨e, y⟩ := y
    subst e
    exact hs i x σ _ (y xs q) p
  · have e : i = xs.length := by omega
    subst e
    exact .inl ⟨⟨xs, q, Nat.le_refl _⟩, hd σ H p⟩
theorem for_range {lo : Int} {n : Nat} {g : TG} {tb : TS} {D : Ends} {σ : St} {H : Hp} (Pv : Nat → St → Hp → Prop) (h0 : Pv 0 σ H)
    (hs : ∀ i σ H, i < n → Pv i σ H → g (.int (lo + i)) σ H fun σ2 H2 => tb { D with nx := Pv (i + 1), ct := Pv (i + 1), bk := D.nx } σ2 H2) (hd : ∀ σ H, Pv n σ H → D.nx σ H) :
    ∃ W : Nat → Nat → St → Hp → Prop, (∃ m, W 0 m σ H) ∧ ∀ i m σ H, W i m σ H →
      ((Itr lo n).stop i H ∧ D.nx σ H) ∨ ((Itr lo n).go i H ∧ ∃ N : St → Hp → Prop, (∀ σ' H', N σ' H' → ∃ m', m' < m ∧ W (i + 1) m' σ' H') ∧ ∀ x H', (Itr lo n).yld i H x H' → g x σ H' fun σ2 H2 => tb { D with nx := N, ct := N, bk := D.nx } σ2 H2) := by
  refine ⟨fun i m σ H => m = n - i ∧ i ≤ n ∧ Pv i σ H, ⟨n, by simp, Nat.zero_le _, h0⟩, ?_⟩
  rintro i m σ H ⟨rfl, hi, p⟩
  by_cases hlt : i < n
  · refine .inr ⟨hlt, Pv (i + 1), fun σ' H' p' => ⟨n - (i + 1), by omega, rfl, hlt, p'⟩, fun x H' y => ?_⟩
    obtain ⟨e, y⟩ := y
    subst e y
    exact hs i σ _ hlt p
  · have e : i = n := by omega
    subst e
    exact .inl ⟨Nat.le_refl _, hd σ H p⟩
/-- while, by a word and a measure of the state -/
theorem while_by {c : TT} {tb : TS} {D : Ends} {σ : St} {H : Hp} (Pv : St → Hp → Prop) (μ : St → Hp → Nat) (h0 : Pv σ H)
    (hs : ∀ σ H, Pv σ H → c σ H fun b H1 => if b = true then tb { D with nx := fun σ' H' => Pv σ' H' ∧ μ σ' H' < μ σ H, ct := fun σ' H' => Pv σ' H' ∧ μ σ' H' < μ σ H, bk := D.nx } σ H1 else D.nx σ H1)
    (mono : ∀ σ H Q Q', (∀ b H1, Q b H1 → Q' b H1) → c σ H Q → c σ H Q') : tWhile c tb D σ H := by
  refine ⟨fun m σ H => m = μ σ H ∧ Pv σ H, ⟨_, rfl, h0⟩, ?_⟩
  rintro m σ H ⟨rfl, p⟩
  refine mono σ H _ _ (fun b H1 q => ?_) (hs σ H p)
  cases b with
  | true => exact ⟨_, fun σ' H' ⟨p', l⟩ => ⟨_, l, rfl, p'⟩, q⟩
  | false => exact q
end L2

namespace L2
open PySem PySem.Spec PyProof.Rows

abbrev R2 := V → V → Hp → VK → Prop
/-- a two-place operation on values: f is binaryOp op, inplaceOp op or compareOp op -/
def OpR (X : Cx) (f : Value → Value → Sem Value) (r : R2) : Prop :=
  ∀ (pins : List (Addr × Obj)) (s : Shared) (σ : St) (H : Hp) (x y : V) (v u : Value) (Q : VK), Inv X pins σ H s → RelV x v → RelV y u → r x y H Q →
    wpAny (model X.prog X.w) X.A (f v u) (EP X pins σ Q) X.xe s
/-- a one-place operation -/
def UnR (X : Cx) (f : Value → Sem Value) (r : V → Hp → VK → Prop) : Prop :=
  ∀ (pins : List (Addr × Obj)) (s : Shared) (σ : St) (H : Hp) (x : V) (v : Value) (Q : VK), Inv X pins σ H s → RelV x v → r x H Q →
    wpAny (model X.prog X.w) X.A (f v) (EP X pins σ Q) X.xe s
/-- a call of a value that is known (a builtin, a type) with values -/
def CallR (X : Cx) (f : Value) (r : List V → Hp → VK → Prop) : Prop :=
  ∀ (pins : List (Addr × Obj)) (s : Shared) (σ : St) (H : Hp) (xs : List V) (us : List Value) (Q : VK), Inv X pins σ H s → Vals xs us → r xs H Q →
    wpAny (model X.prog X.w) X.A (call f us) (EP X pins σ Q) X.xe s
def tOp (r : R2) (ta tb : TE) : TE := fun σ H Q => ta σ H fun x H1 => tb σ H1 fun y H2 => r x y H2 Q
def tUn (r : V → Hp → VK → Prop) (ta : TE) : TE := fun σ H Q => ta σ H fun x H1 => r x H1 Q
/-- ints in, under C, and a value out -/
def rI (C : Int → Int → Prop) (g : Int → Int → V) : R2 := fun x y H Q => ∃ i j, x = .int i ∧ y = .int j ∧ C i j ∧ Q (g i j) H
def rI0 (g : Int → Int → V) : R2 := fun x y H Q => ∃ i j, x = .int i ∧ y = .int j ∧ Q (g i j) H
def rU (g : Int → V) : V → Hp → VK → Prop := fun x H Q => ∃ i, x = .int i ∧ Q (g i) H

section
variable {X : Cx} {a b c : Expr} {ta tb tc : TE} {pos : Pos}

theorem binT (ha : PE X a ta) (hb : PE X b tb) {pins : List (Addr × Obj)} {s : Shared} {σ : St} {H : Hp} {R : V → V → Hp → Prop} (I : Inv X pins σ H s)
    (h : ta σ H fun x H1 => tb σ H1 fun y H2 => R x y H2) {Q : Value → Shared → Prop} {f : Value → Value → Sem Value}
    (hf : ∀ v u s2 x y H2, Inv X pins σ H2 s2 → RelV x v → RelV y u → R x y H2 → wpAny (model X.prog X.w) X.A (f v u) Q X.xe s2) :
    wpAny (model X.prog X.w) X.A (eval a X.env) (fun v s₁ => wpAny (model X.prog X.w) X.A (eval b X.env) (fun u s₂ => wpAny (model X.prog X.w) X.A (f v u) Q X.xe s₂) X.xe s₁) X.xe s := by
  refine thn (ha pins s σ H _ I h) fun v s1 ⟨x, H1, I1, r1, q1⟩ => ?_
  refine thn (hb pins s1 σ H1 _ I1 q1) fun u s2 ⟨y, H2, I2, r2, q2⟩ => ?_
  exact hf v u s2 x y H2 I2 r1 r2 q2

theorem pe_op {op : Operator} {r : R2} (ho : OpR X (binaryOp op) r) (ha : PE X a ta) (hb : PE X b tb) : PE X (.BinOp a op b pos) (tOp r ta tb) := by
  intro pins s σ H Q I h
  exact wpAny_BinOp (binT ha hb I h fun v u s2 x y H2 I2 rx ry q => ho pins s2 σ H2 x y v u Q I2 rx ry q)
theorem pe_un {op : UnaryOp} {r : V → Hp → VK → Prop} (ho : UnR X (unaryOp op) r) (ha : PE X a ta) : PE X (.UnaryOp op a pos) (tUn r ta) := by
  intro pins s σ H Q I h
  exact UnaryOp_ (thn (ha pins s σ H _ I h) fun v s1 ⟨x, H1, I1, r1, q1⟩ => ho pins s1 σ H1 x v Q I1 r1 q1)
/-! ### ints -/
theorem opI {f : Value → Value → Sem Value} {C : Int → Int → Prop} {g : Int → Int → Int}
    (rule : ∀ (i j : Int) (t u : Tok) (s : Shared) (Q : Value → Shared → Prop) (E : Value → Shared → Prop), C i j → Q (.int (g i j) s.toks) { s with toks := s.toks + 1 } → wpAny (model X.prog X.w) X.A (f (.int i t) (.int j u)) Q E s) :
    OpR X f (rI C fun i j => .int (g i j)) := by
  intro pins s σ H x y v u Q I rx ry h
  obtain ⟨i, j, rfl, rfl, hc, q⟩ := h
  obtain ⟨t, rfl⟩ := rx
  obtain ⟨t', rfl⟩ := ry
  exact rule i j t t' s _ _ hc ⟨.int (g i j), H, I.tok _, ⟨_, rfl⟩, q⟩
theorem opI0 {f : Value → Value → Sem Value} {g : Int → Int → Int}
    (rule : ∀ (i j : Int) (t u : Tok) (s : Shared) (Q : Value → Shared → Prop) (E : Value → Shared → Prop), Q (.int (g i j) s.toks) { s with toks := s.toks + 1 } → wpAny (model X.prog X.w) X.A (f (.int i t) (.int j u)) Q E s) :
    OpR X f (rI0 fun i j => .int (g i j)) := by
  intro pins s σ H x y v u Q I rx ry h
  obtain ⟨i, j, rfl, rfl, q⟩ := h
  obtain ⟨t, rfl⟩ := rx
  obtain ⟨t', rfl⟩ := ry
  exact rule i j t t' s _ _ ⟨.int (g i j), H, I.tok _, ⟨_, rfl⟩, q⟩
theorem opB0 {f : Value → Value → Sem Value} {g : Int → Int → Bool}
    (rule : ∀ (i j : Int) (t u : Tok) (s : Shared) (Q : Value → Shared → Prop) (E : Value → Shared → Prop), Q (.bool (g i j)) s → wpAny (model X.prog X.w) X.A (f (.int i t) (.int j u)) Q E s) :
    OpR X f (rI0 fun i j => .bl (g i j)) := by
  intro pins s σ H x y v u Q I rx ry h
  obtain ⟨i, j, rfl, rfl, q⟩ := h
  obtain ⟨t, rfl⟩ := rx
  obtain ⟨t', rfl⟩ := ry
  exact rule i j t t' s _ _ ⟨.bl (g i j), H, I, rfl, q⟩

def CDiv (i j : Int) : Prop := 0 < j ∧ j < 1073741824
def CPow (i j : Int) : Prop := 0 ≤ j ∧ j ≤ 1000000 ∧ i.natAbs < 2 ^ 64
def CMul (i j : Int) : Prop := (-(2 ^ 64) < i ∧ i < 2 ^ 64) ∨ (-(2 ^ 64) < j ∧ j < 2 ^ 64)
theorem CMul.ok {i j : Int} (h : CMul i j) : IntMulOk i j := by
  rcases h with ⟨h1, h2⟩ | ⟨h1, h2⟩
  · exact .of_left (intBits_le_64 h1 h2)
  · exact .of_right (intBits_le_64 h1 h2)
theorem op_add : OpR X (binaryOp .Add) (rI0 fun i j => .int (i + j)) := opI0 fun _ _ _ _ _ _ _ q => add_int q
theorem op_sub : OpR X (binaryOp .Sub) (rI0 fun i j => .int (i - j)) := opI0 fun _ _ _ _ _ _ _ q => sub_int q
theorem op_mul : OpR X (binaryOp .Mult) (rI CMul fun i j => .int (i * j)) := opI fun _ _ _ _ _ _ _ hc q => mul_int q hc.ok
/-- // by a positive divisor -/
theorem op_fdiv : OpR X (binaryOp .FloorDiv) (rI CDiv fun i j => .int (i / j)) := opI fun i j _ _ _ _ _ hc q => by
  have h1 : (0 : Int) < j := hc.1
  have h2 : j < 1073741824 := hc.2
  exact floordiv_int (by omega) (by rw [Int.fdiv_eq_ediv_of_nonneg i (by omega)]; exact q) (.inl (PyProof.noPylong_small (by omega)))
/-- % by a positive divisor of any size -/
theorem op_mod : OpR X (binaryOp .Mod) (rI (fun _ j => 0 < j) fun i j => .int (i % j)) := opI fun i j _ _ _ _ _ hc q => by
  have h1 : (0 : Int) < j := hc
  exact mod_int' (by omega) (by rw [Int.fmod_eq_emod_of_nonneg i (by omega)]; exact q)
theorem op_pow : OpR X (binaryOp .Pow) (rI CPow fun i j => .int (i ^ j.toNat)) := opI fun _ _ _ _ _ _ _ hc q => pow_int_small hc.1 hc.2.1 hc.2.2 q
theorem unI {f : Value → Sem Value} {g : Int → Int}
    (rule : ∀ (i : Int) (t : Tok) (s : Shared) (Q : Value → Shared → Prop) (E : Value → Shared → Prop), Q (.int (g i) s.toks) { s with toks := s.toks + 1 } → wpAny (model X.prog X.w) X.A (f (.int i t)) Q E s) :
    UnR X f (rU fun i => .int (g i)) := by
  intro pins s σ H x v Q I rx h
  obtain ⟨i, rfl, q⟩ := h
  obtain ⟨t, rfl⟩ := rx
  exact rule i t s _ _ ⟨.int (g i), H, I.tok _, ⟨_, rfl⟩, q⟩
theorem un_neg : UnR X (unaryOp .USub) (rU fun i => .int (-i)) := unI fun _ _ _ _ _ q => neg_int q
/-! ### bools among ints: n += (a < b) -/
end

/-! ### comparisons -/
/-- the scalars that == tells apart as data does -/
def scal : V → V → Bool
  | .non, .non => true | .non, .int _ => true | .int _, .non => true | .non, .bl _ => true | .bl _, .non => true | .non, .str _ => true | .str _, .non => true
  | .int _, .int _ => true | .bl _, .bl _ => true | .str _, .str _ => true | .byt _, .byt _ => true
  | .int _, .str _ => true | .str _, .int _ => true | .bl _, .str _ => true | .str _, .bl _ => true
  | _, _ => false
def rEq : R2 := fun x y H Q => scal x y = true ∧ Q (.bl (decide (x = y))) H
theorem dec_int {i j : Int} : decide (V.int i = V.int j) = (i == j) := by
  rw [Bool.eq_iff_iff]
  simp
theorem dec_bl {i j : Bool} : decide (V.bl i = V.bl j) = (i == j) := by
  rw [Bool.eq_iff_iff]
  simp
theorem dec_str {i j : Str} : decide (V.str i = V.str j) = (i == j) := by
  rw [Bool.eq_iff_iff]
  simp
theorem dec_byt {i j : Array UInt8} : decide (V.byt i = V.byt j) = (i.toList == j.toList) := by
  rw [Bool.eq_iff_iff]
  cases i
  cases j
  simp

section
variable {X : Cx} {a b c : Expr} {ta tb tc : TE} {pos : Pos}
theorem fin_bl {pins : List (Addr × Obj)} {σ : St} {H : Hp} {s : Shared} {Q : VK} {k k' : Bool} (I : Inv X pins σ H s) (q : Q (.bl k) H) (e : k = k') : EP X pins σ Q (.bool k') s := by
  subst e
  exact ⟨.bl k, H, I, rfl, q⟩
theorem op_eq : OpR X (compareOp .Eq) rEq := by
  intro pins s σ H x y v u Q I rx ry h
  obtain ⟨hs, q⟩ := h
  cases x with
  | non =>
    cases rx
    cases y with
    | non => cases ry; exact PySem.EqNone.eq_none_none (fin_bl I q (by simp))
    | bl j => cases ry; exact PySem.EqNone.eq_none_bool (fin_bl I q (by simp))
    | int j => obtain ⟨t', rfl⟩ := ry; exact PySem.EqNone.eq_none_int (fin_bl I q (by simp))
    | str j => obtain ⟨t', rfl⟩ := ry; exact PySem.EqNone.eq_none_str (fin_bl I q (by simp))
    | _ => exact absurd (show false = true from hs) Bool.false_ne_true
  | bl i =>
    cases rx
    cases y with
    | non => cases ry; exact PySem.EqNone.eq_bool_none (fin_bl I q (by simp))
    | bl j => cases ry; exact eq_bool (fin_bl I q dec_bl)
    | str j => obtain ⟨t', rfl⟩ := ry; exact PySem.EqMixed.eq_bool_str (fin_bl I q (by simp))
    | _ => exact absurd (show false = true from hs) Bool.false_ne_true
  | int i =>
    obtain ⟨t, rfl⟩ := rx
    cases y with
    | non => cases ry; exact PySem.EqNone.eq_int_none (fin_bl I q (by simp))
    | int j => obtain ⟨t', rfl⟩ := ry; exact eq_int (fin_bl I q dec_int)
    | str j => obtain ⟨t', rfl⟩ := ry; exact PySem.EqMixed.eq_int_str (fin_bl I q (by simp))
    | _ => exact absurd (show false = true from hs) Bool.false_ne_true
  | str i =>
    obtain ⟨t, rfl⟩ := rx
    cases y with
    | non => cases ry; exact PySem.EqNone.eq_str_none (fin_bl I q (by simp))
    | bl j => cases ry; exact PySem.EqMixed.eq_str_bool (fin_bl I q (by simp))
    | int j => obtain ⟨t', rfl⟩ := ry; exact PySem.EqMixed.eq_str_int (fin_bl I q (by simp))
    | str j => obtain ⟨t', rfl⟩ := ry; exact eq_str (fin_bl I q dec_str)
    | _ => exact absurd (show false = true from hs) Bool.false_ne_true
  | byt i =>
    obtain ⟨t, rfl⟩ := rx
    cases y with
    | byt j => obtain ⟨t', rfl⟩ := ry; exact PySem.W.eq_bytes (fin_bl I q dec_byt)
    | _ => exact absurd (show false = true from hs) Bool.false_ne_true
  | _ => cases y <;> exact absurd (show false = true from hs) Bool.false_ne_true
theorem op_lt : OpR X (compareOp .Lt) (rI0 fun i j => .bl (decide (i < j))) := opB0 fun _ _ _ _ _ _ _ q => lt_int q
theorem op_le : OpR X (compareOp .LtE) (rI0 fun i j => .bl (decide (i ≤ j))) := opB0 fun _ _ _ _ _ _ _ q => le_int q
theorem op_gt : OpR X (compareOp .Gt) (rI0 fun i j => .bl (decide (j < i))) := opB0 fun _ _ _ _ _ _ _ q => gt_int q
theorem op_ge : OpR X (compareOp .GtE) (rI0 fun i j => .bl (decide (j ≤ i))) := opB0 fun _ _ _ _ _ _ _ q => ge_int q
theorem nomark (b : Expr) {op : CmpOp} (h : op ≠ .In := by decide) (h2 : op ≠ .NotIn := by decide) : behindInMarks op b = false := by
  have e1 : (op == CmpOp.In) = false := by cases op <;> first | rfl | exact absurd rfl h
  have e2 : (op == CmpOp.NotIn) = false := by cases op <;> first | rfl | exact absurd rfl h2
  cases b <;> simp [behindInMarks, e1, e2]
/-- a comparison as a value; hm: nomark b, or (for in, not in) by with_unfolding_all rfl -/
theorem pe_cmpR {op : CmpOp} {r : R2} (ho : OpR X (compareOp op) r) (ha : PE X a ta) (hb : PE X b tb) (hm : behindInMarks op b = false) : PE X (.Compare a [op] [b] pos) (tOp r ta tb) := by
  intro pins s σ H Q I h
  exact wpAny_Compare1 (binT ha hb I h fun v u s2 x y H2 I2 rx ry q => ho pins s2 σ H2 x y v u Q I2 rx ry q) hm
/-- a reading of a value as a test -/
def tTest (t : TE) : TT := fun σ H Q => t σ H fun x H' => ∃ k, x = .bl k ∧ Q k H'
theorem pt_cmpR {op : CmpOp} {r : R2} (ho : OpR X (compareOp op) r) (ha : PE X a ta) (hb : PE X b tb) (hm : behindInMarks op b = false) : PT X (.Compare a [op] [b] pos) (tTest (tOp r ta tb)) := by
  intro pins s σ H Q I h
  refine wpAny_isTrue_Compare1 (thn (ha pins s σ H _ I h) fun v s1 ⟨x, H1, I1, r1, q1⟩ => thn (hb pins s1 σ H1 _ I1 q1) fun u s2 ⟨y, H2, I2, r2, q2⟩ =>
    thn (ho pins s2 σ H2 x y v u _ I2 r1 r2 q2) fun c s3 ⟨z, H3, I3, r3, k, e, q3⟩ => ?_) hm
  subst e
  cases r3
  exact wpAny_truthy_bool ⟨H3, I3, q3⟩
/-- a op1 b op2 c -/
def tChain (r r' : R2) (ta tb tc : TE) : TE := fun σ H Q => ta σ H fun x H1 => tb σ H1 fun y H2 => r x y H2 fun z H3 => ∃ k, z = .bl k ∧
  (if k = true then tc σ H3 fun w' H4 => r' y w' H4 Q else Q (.bl false) H3)
theorem pt_chain {op op' : CmpOp} {r r' : R2} (ho : OpR X (compareOp op) r) (ho' : OpR X (compareOp op') r') (ha : PE X a ta) (hb : PE X b tb) (hc : PE X c tc)
    (hm : lastMarks [op, op'] [b, c] = false := by with_unfolding_all rfl) : PT X (.Compare a [op, op'] [b, c] pos) (tTest (tChain r r' ta tb tc)) := by
  intro pins s σ H Q I h
  refine isTrue_chain (thn (ha pins s σ H _ I h) fun v s1 ⟨x, H1, I1, r1, q1⟩ => test_link (thn (hb pins s1 σ H1 _ I1 q1) fun u s2 ⟨y, H2, I2, r2, q2⟩ =>
    thn (ho pins s2 σ H2 x y v u _ I2 r1 r2 q2) fun d s3 ⟨z, H3, I3, r3, k, e, q3⟩ => ?_)) hm
  subst e
  cases r3
  refine wpAny_truthy_bool ?_
  cases k with
  | false =>
    obtain ⟨k', e', q'⟩ := q3
    cases e'
    exact ite_ff ⟨H3, I3, q'⟩
  | true =>
    refine ite_tt (test_last (thn (hc pins s3 σ H3 _ I3 q3) fun w' s4 ⟨z', H4, I4, r4, q4⟩ => thn (ho' pins s4 σ H4 y z' u w' _ I4 r2 r4 q4) fun d' s5 ⟨z2, H5, I5, r5, k2, e2, q5⟩ => ?_))
    subst e2
    cases r5
    exact wpAny_truthy_bool ⟨H5, I5, q5⟩

/-! ### truth -/
theorem line63 : (sizeLine : Nat) < 2 ^ 63 := by rw [sizeLine_eq]; decide
/-! ### strs and bytes -/
/-! ### scalar builtins, by CallR -/
theorem vals1 {x : V} {us : List Value} (r : Vals [x] us) : ∃ u, us = [u] ∧ RelV x u := by
  cases r with
  | cons r1 r2 => cases r2; exact ⟨_, rfl, r1⟩
theorem vals2 {x y : V} {us : List Value} (r : Vals [x, y] us) : ∃ u w', us = [u, w'] ∧ RelV x u ∧ RelV y w' := by
  cases r with
  | cons r1 r2 =>
    cases r2 with
    | cons r3 r4 => cases r4; exact ⟨_, _, rfl, r1, r3⟩
end
end L2

namespace L2
open PySem PySem.Spec PyProof.Rows

/-! ### an instance, its attributes a map -/
structure ObjM (h : Heap) (x dx C : Addr) (mA : Str → Option Value) : Prop where
  obj : h.get? x = some (PySem.W.instObj C dx)
  ns : h.Ns1 dx mA
  ne : dx ≠ x

theorem lookIn_ns {h : Heap} {dx : Addr} {mA : Str → Option Value} (n : h.Ns1 dx mA) : ∃ od, h.get? dx = some od ∧ ∀ name, PySem.W.lookIn name od = some (mA name) := by
  obtain ⟨o, es, ep, ho, hd, hk, _, hm⟩ := n
  refine ⟨o, ho, fun name => ?_⟩
  have e := hm name
  unfold nsFind findBy at e
  rw [← Array.find?_toList] at e
  unfold PySem.W.lookIn
  rw [hd]
  dsimp only
  split
  · rename_i y q
    rw [q] at e
    exact congrArg some e
  · rename_i q
    rw [q] at e
    have a : es.toList.any (·.refKey) = false := by
      rw [List.any_eq_false]
      intro y hy
      obtain ⟨z, t, hkey⟩ := hk y (Array.mem_toList_iff.mp hy)
      simp [DictEntry.refKey, hkey]
    have a' : ¬ es.toList.any (·.refKey) = true := by rw [a]; exact Bool.false_ne_true
    rw [if_neg a']
    exact congrArg some e

theorem ObjM.look {h : Heap} {x dx C : Addr} {mA : Str → Option Value} (I : ObjM h x dx C mA) : ∃ od, PySem.W.InstAt h x (PySem.W.instObj C dx) C (some od) ∧ ∀ name, PySem.W.lookIn name od = some (mA name) :=
  let ⟨od, ho, hl⟩ := lookIn_ns I.ns
  ⟨od, ⟨I.obj, rfl, rfl, ho⟩, hl⟩

section
variable {prog : Program} {w : World} {A : Around} {E : Value → Shared → Prop} {s : Shared} {K : PySem.W.Frag} {x dx C f : Addr} {mA : Str → Option Value} {name : Str} {v : Value}

theorem get_map {expr : Bool} {Q : Value → Shared → Prop} (X : K.In s.heap) (I : ObjM s.heap x dx C mA) (hg : PySem.W.plainGet K C name = true) (hh : PySem.W.hasDictIn K C = true)
    (ha : PySem.W.findIn K (.ref C) name = some none) (hv : mA name = some v) (hv' : PySem.W.handedIn v = true) (h : Q v { s with toks := s.toks + 1 }) :
    wpAny (model prog w) A (getAttr (.ref x) name expr) Q E s := by
  obtain ⟨od, J, hl⟩ := I.look
  exact PySem.W.get_value X J (PySem.W.plainGet_of hg).1 (PySem.W.findObj_own hh ha rfl (by rw [hl, hv])) hv' h

theorem get_meth {pl : Sem Bool} {Q : Value × List Value → Shared → Prop} (X : K.In s.heap) (I : ObjM s.heap x dx C mA) (hg : PySem.W.plainGet K C name = true)
    (hf : PySem.W.findIn K (.ref C) name = some (some (.ref f))) (ht : PySem.W.isFn K (.ref f) = true) (hv : mA name = none) (h : Q (.ref f, [.ref x]) s) :
    wpAny (model prog w) A (getMethod (.ref x) name pl) Q E s := by
  obtain ⟨od, J, hl⟩ := I.look
  exact PySem.W.method_fn X J (PySem.W.plainGet_of hg).1 (PySem.W.plainGet_of hg).2 hf (beq_iff_eq.mp ht) (by show (PySem.W.lookIn name od).map (·.isSome) = some false; rw [hl, hv]; rfl) h

theorem set_map {ns : List Str} {Q : Unit → Shared → Prop} (X : K.In s.heap) (I : ObjM s.heap x dx C mA)
    (hs : PySem.W.findIn K (.ref C) "__setattr__" = some (some (.builtin "object.__setattr__"))) (hp : PySem.W.plainOver K C = true) (ht : PySem.W.takerIn K C name = some none) (hh : PySem.W.hasDictIn K C = true)
    (hw : PySem.Within mA ns) (hsz : ns.length ≤ sizeLine)
    (h : ∀ h', ObjM h' x dx C (fun y => if y = name then some v else mA y) → Heap.SameBut dx s.heap h' → Q () { s with heap := h', toks := s.toks + 2 }) :
    wpAny (model prog w) A (setAttr (.ref x) name v) Q E s := by
  obtain ⟨od, J, hl⟩ := I.look
  refine PySem.W.set_plain X J hs (PySem.W.osa_open (s := { s with toks := s.toks + 1 }) (r := none) X J hp ht fun b => ?_)
  obtain ⟨cd, hc, hd'⟩ := PySem.W.any_some hh
  have hx : s.heap.get? x = some ⟨.ref C, some dx, .plain, #[]⟩ := I.obj
  refine wpAny_bind (wpAny_pure (wpAny_bind (wpAny_bind (wpAny_loadPart hx (wpAny_bind (PySem.W.Looks.here (s := { s with toks := s.toks + 1 }) (PySem.W.looks_clsIn X hc) ?_))))))
  rw [hd']
  refine wpAny_pure (a := some dx) (wpAny_bind (wpAny_pure (wpAny_bind ?_)))
  refine wpAny_nsSet1 (s := { s with toks := s.toks + 1 }) I.ns fun h' hn2 hs2 => ?_
  obtain ⟨oD, esD, epD, hoD, hdD, hcD⟩ := hn2.count (PySem.Within.cons name v hw)
  refine wpAny_bind (wpAny_lookBehind hoD (by rw [hdD]; exact pastItsLine_dict (Nat.le_trans hcD (by rw [List.length_cons]; omega))) ?_)
  exact wpAny_pure (h _ ⟨(hs2.2 _ (Ne.symm I.ne)).trans I.obj, hn2, I.ne⟩ hs2)

/-- C(..): the dict at the heap's end, the instance behind it; then its __init__ -/
theorem make_map {R : Result → Shared → Prop} {vs : List Value} {kw : List (Str × Value)} (X : K.In s.heap) (hm : PySem.W.makesIn K C = true)
    (hi : PySem.W.findIn K (.ref C) "__init__" = some (some (.ref f))) (hf : PySem.W.typeIn K (.ref f) = some (.type "function"))
    (h : codeAny (model prog w) (A.under (.builtin "type.__call__" ⟨.ref C :: vs, kw⟩)) (.call (.ref f) ⟨.ref (s.heap.objs.size + 1) :: vs, kw⟩) (PySem.W.InitBack (s.heap.objs.size + 1) R)
      { s with heap := (s.heap.push PySem.W.emptyDict).push (PySem.W.instObj C s.heap.objs.size) }) :
    codeAny (model prog w) A (.call (.ref C) ⟨vs, kw⟩) R s := by
  obtain ⟨hh, g, d, t, os⟩ := s
  exact PySem.W.make_core (PySem.W.makes_of X hm) (PySem.W.looks_findIn X hi) (fun self => PySem.W.bind_fn X self hf) (.inl rfl) h
end

/-! ### the attributes as a list of pairs -/
def putF (f : Str) (v : V) : List (Str × V) → List (Str × V)
  | [] => [(f, v)]
  | (g, x) :: r => if g = f then (g, v) :: r else (g, x) :: putF f v r
theorem lookup_putF (f g : Str) (v : V) : ∀ fs : List (Str × V), (putF f v fs).lookup g = if g = f then some v else fs.lookup g
  | [] => by
    show List.lookup g [(f, v)] = _
    by_cases h : g = f
    · have hb : (g == f) = true := beq_iff_eq.mpr h
      simp only [List.lookup, hb, if_pos h]
    · have hb : (g == f) = false := beq_eq_false_iff_ne.mpr h
      simp only [List.lookup, hb, if_neg h]
  | (k, x) :: r => by
    have ih := lookup_putF f g v r
    rw [show putF f v ((k, x) :: r) = (if k = f then (k, v) :: r else (k, x) :: putF f v r) from rfl]
    by_cases hk : k = f
    · rw [if_pos hk]
      by_cases h : g = k
      · have hb : (g == k) = true := beq_iff_eq.mpr h
        simp only [List.lookup, hb, if_pos (h.trans hk)]
      · have hb : (g == k) = false := beq_eq_false_iff_ne.mpr h
        simp only [List.lookup, hb, if_neg (fun e : g = f => h (e.trans hk.symm))]
    · rw [if_neg hk]
      by_cases h : g = k
      · have hb : (g == k) = true := beq_iff_eq.mpr h
        simp only [List.lookup, hb, if_neg (fun e : g = f => hk (h.symm.trans e))]
      · have hb : (g == k) = false := beq_eq_false_iff_ne.mpr h
        simp only [List.lookup, hb]
        exact ih
theorem keys_putF (f : Str) (v : V) : ∀ fs : List (Str × V), f ∈ (putF f v fs).map (·.1) ∧ ∀ g, g ∈ fs.map (·.1) → g ∈ (putF f v fs).map (·.1)
  | [] => ⟨by simp [putF], fun g h => by simp at h⟩
  | (k, x) :: r => by
    obtain ⟨i1, i2⟩ := keys_putF f v r
    rw [show putF f v ((k, x) :: r) = (if k = f then (k, v) :: r else (k, x) :: putF f v r) from rfl]
    by_cases hk : k = f
    · rw [if_pos hk]
      subst hk
      exact ⟨by simp, fun g h => by simpa using h⟩
    · rw [if_neg hk]
      refine ⟨?_, fun g h => ?_⟩
      · rw [List.map_cons]
        exact List.mem_cons_of_mem _ i1
      · rw [List.map_cons] at h ⊢
        rcases List.mem_cons.mp h with e | e
        · exact List.mem_cons.mpr (.inl e)
        · exact List.mem_cons_of_mem _ (i2 g e)
theorem length_putF (f : Str) (v : V) : ∀ fs : List (Str × V), (putF f v fs).length ≤ fs.length + 1
  | [] => by simp [putF]
  | (k, x) :: r => by
    have ih := length_putF f v r
    rw [show putF f v ((k, x) :: r) = (if k = f then (k, v) :: r else (k, x) :: putF f v r) from rfl]
    by_cases hk : k = f
    · rw [if_pos hk, List.length_cons, List.length_cons]; omega
    · rw [if_neg hk, List.length_cons, List.length_cons]; omega

theorem RelO.some_of {v : V} {o : Option Value} (r : RelO (some v) o) : ∃ u, o = some u ∧ RelV v u := by
  cases o with
  | none => exact (show False from r).elim
  | some u => exact ⟨u, rfl, r⟩
theorem RelO.none_of {o : Option Value} (r : RelO none o) : o = none := by
  cases o with
  | none => rfl
  | some u => exact (show False from r).elim
theorem handed_of {v : V} {u : Value} (r : RelV v u) : PySem.W.handedIn u = true := by
  cases v with
  | non => cases (show u = Value.none from r); rfl
  | bl b => cases (show u = Value.bool b from r); rfl
  | int i => obtain ⟨t, e⟩ := (show ∃ t, u = Value.int i t from r); cases e; rfl
  | str x => obtain ⟨t, e⟩ := (show ∃ t, u = Value.str x t from r); cases e; rfl
  | byt b => obtain ⟨t, e⟩ := (show ∃ t, u = Value.bytes b t from r); cases e; rfl
  | flt b => obtain ⟨t, e⟩ := (show ∃ t, u = Value.float b t from r); cases e; rfl
  | ref a => cases (show u = Value.ref a from r); rfl
  | ty n => cases (show u = Value.type n from r); rfl

section
variable {P : Program} {w : World} {H H' : Hp} {h h' : Heap} {a C dx : Addr} {fs fs' : List (Str × V)}
theorem ins_get (hok : HOk P w H h) (e : H a = some (.ins C dx fs)) : ∃ mA, ObjM h a dx C mA ∧ (∀ f, RelO (fs.lookup f) (mA f)) ∧ PySem.Within mA (fs.map (·.1)) ∧ fs.length ≤ 1000 ∧ H dx = some (.own a) := by
  obtain ⟨d, z, ne, ob, mA, n, r, q⟩ := (show ObjOk P w H h a (.ins C dx fs) from hok a _ e)
  exact ⟨mA, ⟨ob, n, ne⟩, r, q, z, d⟩
end

/-! ### what of the text a class must have -/
structure Cls (K : PySem.W.Frag) (C : Addr) : Prop where
  pg : PySem.W.plainGet K C Str.empty = true
  hd : PySem.W.hasDictIn K C = true
  po : PySem.W.plainOver K C = true
  sa : PySem.W.findIn K (.ref C) "__setattr__" = some (some (.builtin "object.__setattr__"))
theorem Cls.get {K : PySem.W.Frag} {C : Addr} (c : Cls K C) (f : Str) : PySem.W.plainGet K C f = true := c.pg
/-- no class of it has the name -/
def NoAttr (K : PySem.W.Frag) (C : Addr) (f : Str) : Prop := PySem.W.findIn K (.ref C) f = some none
theorem NoAttr.taker {K : PySem.W.Frag} {C : Addr} {f : Str} (n : NoAttr K C f) : PySem.W.takerIn K C f = some none := by
  unfold PySem.W.takerIn
  rw [show PySem.W.findIn K (.ref C) f = some none from n]
  rfl
/-- a method: a plain def of the class or of one above it -/
structure Meth (K : PySem.W.Frag) (C : Addr) (m : Str) (f : Addr) : Prop where
  at_ : PySem.W.findIn K (.ref C) m = some (some (.ref f))
  fn : PySem.W.isFn K (.ref f) = true
  kp : PySem.W.keepIn K (.ref f) = true

section
variable {X : Cx} {pins : List (Addr × Obj)} {σ : St} {H : Hp} {s : Shared} {a C dx : Addr} {fs : List (Str × V)} {f : Str} {v : V} {A : Around} {E : Value → Shared → Prop}

theorem getattr_ok {b : Bool} {Q : Value → Shared → Prop} (I : Inv X pins σ H s) (e : H a = some (.ins C dx fs)) (c : Cls X.K C) (n : NoAttr X.K C f) (l : fs.lookup f = some v)
    (h : ∀ u s', Inv X pins σ H s' → RelV v u → Q u s') : wpAny (model X.prog X.w) A (getAttr (.ref a) f b) Q E s := by
  obtain ⟨mA, O, r, _, _, _⟩ := ins_get I.hok e
  obtain ⟨u, hu, ru⟩ := RelO.some_of (v := v) (o := mA f) (by rw [← l]; exact r f)
  exact get_map I.kIn O (c.get f) c.hd n hu (handed_of ru) (h u _ (I.tok _) ru)

theorem getmeth_ok {m : Str} {g : Addr} {pl : Sem Bool} {Q : Value × List Value → Shared → Prop} (I : Inv X pins σ H s) (e : H a = some (.ins C dx fs)) (c : Cls X.K C) (k : Meth X.K C m g) (l : fs.lookup m = none)
    (h : Q (.ref g, [.ref a]) s) : wpAny (model X.prog X.w) A (getMethod (.ref a) m pl) Q E s := by
  obtain ⟨mA, O, r, _, _, _⟩ := ins_get I.hok e
  have hn : mA m = none := RelO.none_of (by rw [← l]; exact r m)
  exact get_meth I.kIn O (c.get m) k.at_ k.fn hn h

theorem setattr_ok {y : V} {u : Value} {Q : Unit → Shared → Prop} (I : Inv X pins σ H s) (e : H a = some (.ins C dx fs)) (c : Cls X.K C) (n : NoAttr X.K C f) (hl : fs.length < 1000) (ry : RelV y u)
    (h : ∀ s', Inv X pins σ (upd H a (.ins C dx (putF f y fs))) s' → Q () s') : wpAny (model X.prog X.w) A (setAttr (.ref a) f u) Q E s := by
  obtain ⟨mA, O, r, wi, _, ho⟩ := ins_get I.hok e
  have hz : (fs.map (·.1)).length ≤ sizeLine := by rw [List.length_map, sizeLine_eq]; omega
  refine set_map I.kIn O c.sa c.po n.taker c.hd wi hz fun h' O' sb => h _ ?_
  have hd : ∃ o, h'.get? dx = some o := let ⟨o, _, _, e', _⟩ := O'.ns; ⟨o, e'⟩
  refine I.write (x := a) (e := dx) (by rw [e]; exact True.intro) (.inr ho) (fun b q hb z => (sb.2 b hb).trans z) hd ?_
  refine ⟨by rw [upd_ne O.ne]; exact ho, ?_, O.ne, O'.obj, _, O'.ns, fun g => ?_, fun g hg => ?_⟩
  · have := length_putF f y fs; omega
  · show RelO ((putF f y fs).lookup g) (if g = f then some u else mA g)
    rw [lookup_putF]
    by_cases q : g = f
    · rw [if_pos q, if_pos q]; exact ry
    · rw [if_neg q, if_neg q]; exact r g
  · by_cases q : g = f
    · rw [q]; exact (keys_putF f y fs).1
    · refine (keys_putF f y fs).2 g (wi g fun z => hg ?_)
      show (if g = f then some u else mA g) = none
      rw [if_neg q]; exact z

/-- a new instance, tracked, without attributes -/
theorem Inv.made (I : Inv X pins σ H s) : Inv X pins σ (upd (upd H s.heap.objs.size (.own (s.heap.objs.size + 1))) (s.heap.objs.size + 1) (.ins C s.heap.objs.size []))
    { s with heap := (s.heap.push PySem.W.emptyDict).push (PySem.W.instObj C s.heap.objs.size) } := by
  have e1 : (s.heap.push PySem.W.emptyDict).get? s.heap.objs.size = some PySem.W.emptyDict := Heap.get?_push_size s.heap rfl
  have e2 : ((s.heap.push PySem.W.emptyDict).push (PySem.W.instObj C s.heap.objs.size)).get? (s.heap.objs.size + 1) = some (PySem.W.instObj C s.heap.objs.size) := by
    have := Heap.get?_push_size (s.heap.push PySem.W.emptyDict) (o := PySem.W.instObj C s.heap.objs.size) rfl
    rwa [Heap.size_push] at this
  have e3 : (s.heap.push PySem.W.emptyDict).Ns s.heap.objs.size (fun _ => none) := ⟨PySem.W.emptyDict, #[], _, e1, rfl, (fun e he => absurd he (by simp)), fun _ => rfl⟩
  have I1 := I.laid (a := s.heap.objs.size) (o := .own (s.heap.objs.size + 1)) (h' := s.heap.push PySem.W.emptyDict) (t' := s.toks) (fun b u q => Heap.get?_push_of_some _ q) (Nat.le_refl _) ⟨_, e1⟩
  refine I1.laid (a := s.heap.objs.size + 1) (o := .ins C s.heap.objs.size []) (t' := s.toks) (fun b u q => Heap.get?_push_of_some _ q) (Nat.le_of_eq (Heap.size_push _ _)) ?_
  have ne : s.heap.objs.size ≠ s.heap.objs.size + 1 := Nat.ne_of_lt (Nat.lt_succ_self _)
  refine ⟨by rw [upd_ne ne, upd_same], Nat.zero_le _, ne, e2, fun _ => none, (Heap.Ns1.of_empty e3).at fun o q => Heap.get?_push_of_some _ q, fun _ => True.intro, fun y hy => absurd rfl hy⟩

/-- e.f where nothing but the object is asked: through attributeBase (super) and the last hold -/
theorem attr_of {prog : Program} {w : World} {env : Env} {e : Expr} {f : Str} {pos : Pos} {s : Shared} {Q : Value → Shared → Prop} (hb : attributeBase e f env (eval e env) = eval e env)
    (h : wpAny (model prog w) A (eval e env) (fun o s₁ => wpAny (model prog w) A (getAttr o f true) Q E s₁) E s) : wpAny (model prog w) A (eval (.Attribute e f pos) env) Q E s :=
  Attribute_any_ h (by rw [arm_eval_Attribute, hb])
end

/-! ### readings and rules -/
/-- e.f, an attribute of the instance -/
def tFld (K : PySem.W.Frag) (ta : TE) (f : Str) : TE := fun σ H Q => ta σ H fun x H1 => ∃ a C dx fs v, x = .ref a ∧ H1 a = some (.ins C dx fs) ∧ Cls K C ∧ NoAttr K C f ∧ fs.lookup f = some v ∧ Q v H1
/-- e.f = value -/
def sFld (K : PySem.W.Frag) (ta tv : TE) (f : Str) : TS := fun D σ H => tv σ H fun y H1 => ta σ H1 fun x H2 => ∃ a C dx fs, x = .ref a ∧ H2 a = some (.ins C dx fs) ∧ Cls K C ∧ NoAttr K C f ∧ fs.length < 1000 ∧
  D.nx σ (upd H2 a (.ins C dx (putF f y fs)))
section
variable {X : Cx} {o e value : Expr} {f : Str} {pos pos' tpos : Pos} {ta tv : TE}
theorem pe_fld (he : PE X e ta) (hb : attributeBase e f X.env (eval e X.env) = eval e X.env) : PE X (.Attribute e f pos) (tFld X.K ta f) := by
  intro pins s σ H Q I h
  refine attr_of hb (thn (he pins s σ H _ I h) fun u s1 ⟨x, H1, I1, rx, a, C, dx, fs, v, ex, ea, c, n, l, q⟩ => ?_)
  subst ex
  obtain rfl : u = Value.ref a := rx
  exact getattr_ok I1 ea c n l fun u' s2 I2 ru => ⟨v, H1, I2, ru, q⟩
theorem ps_fld (ha : PE X o ta) (hv : PE X value tv) (hs : swapsWith value (some (.Attribute o f pos')) pos.line X.env = pure false) : PS X (.Assign [.Attribute o f pos'] value pos) (sFld X.K ta tv f) := by
  intro pins s σ H D I h
  refine plainObj_wpAny_Assign_Attribute (thn (hv pins s σ H _ I h) fun u s1 ⟨y, H1, I1, ry, q⟩ => thn (ha pins s1 σ H1 _ I1 q) fun ov s2 ⟨x, H2, I2, rx, a, C, dx, fs, ex, ea, c, n, l, q2⟩ => ?_) hs
  subst ex
  obtain rfl : ov = Value.ref a := rx
  exact setattr_ok I2 ea c n l ry fun s3 I3 => ⟨σ, _, I3, q2⟩
/-- what is between an instance and its method: the tree of a method call -/
theorem methcall_of {pl : Sem Bool} {m : Str} {apos : Pos} {args : List Expr} {pins : List (Addr × Obj)} {s : Shared} {σ : St} {H : Hp} {Q : Value → Shared → Prop} {te : TE} (he : PE X e te) (I : Inv X pins σ H s)
    (h : te σ H fun x H1 => ∃ a C dx fs g, x = .ref a ∧ H1 a = some (.ins C dx fs) ∧ Cls X.K C ∧ Meth X.K C m g ∧ fs.lookup m = none ∧
      ∀ s1, Inv X pins σ H1 s1 → wpAny (model X.prog X.w) X.A (callWith pos (.ref g) [.ref a] (backTo pos (starEach args X.env)) (backToKw pos (keywordEach [] X.env))) Q X.xe s1)
    (ht : eval (.Call (.Attribute e m apos) args [] pos) X.env = (do
      let ov ← eval e X.env
      standAt apos.atName
      let (f, first) ← holding [ov] (getMethod ov m pl)
      callWith pos f first (backTo pos (starEach args X.env)) (backToKw pos (keywordEach [] X.env)))) :
    wpAny (model X.prog X.w) X.A (eval (.Call (.Attribute e m apos) args [] pos) X.env) Q X.xe s := by
  refine PySem.W.methodCall_KW (pl := pl) (thn (he pins s σ H _ I h) fun u s1 ⟨x, H1, I1, rx, a, C, dx, fs, g, ex, ea, c, k, l, q⟩ => ?_) ht
  subst ex
  obtain rfl : u = Value.ref a := rx
  exact getmeth_ok I1 ea c k l (q s1 I1)
end

/-! ### isinstance -/
section
variable {X : Cx} {pins : List (Addr × Obj)} {σ : St} {H : Hp} {s : Shared} {A : Around} {E : Value → Shared → Prop} {Q : Value → Shared → Prop} {c : Value} {b : Bool}
/-- the type of a value, as the fragment's deciders take it; for an instance its class -/
inductive TyOf (K : PySem.W.Frag) (H : Hp) : V → Value → Prop where
  | non : TyOf K H .non (.type "NoneType")
  | bl (x : Bool) : TyOf K H (.bl x) (.type "bool")
  | int (i : Int) : TyOf K H (.int i) (.type "int")
  | str (x : Str) : TyOf K H (.str x) (.type "str")
  | flt (x : UInt64) : TyOf K H (.flt x) (.type "float")
  | lst {a : Addr} {xs : List V} (e : H a = some (.lst xs)) : TyOf K H (.ref a) (.type "list")
  | frz {a : Addr} {o : Obj} {xs : List V} (e : H a = some (.frz o (.lst xs))) : TyOf K H (.ref a) (.type "list")
  | tup {a : Addr} {xs : List V} (e : H a = some (.tup xs)) : TyOf K H (.ref a) (.type "tuple")
  | dK {a : Addr} {kvs : List (Key × V)} (e : H a = some (.dK kvs)) : TyOf K H (.ref a) (.type "dict")
  | dT {a : Addr} {kvs : List (List Key × V)} (e : H a = some (.dT kvs)) : TyOf K H (.ref a) (.type "dict")
  | ins {a C dx : Addr} {fs : List (Str × V)} (e : H a = some (.ins C dx fs)) (cl : Cls K C) (ha : PySem.W.findIn K (.ref C) "__class__" = some (some (.builtin "object.__class__")))
      (hn : PySem.W.specialIn K (.builtin "object.__class__") "__get__" = some (some (.builtin "getset_descriptor.__get__"))) (htk : PySem.W.takesIn K (.builtin "object.__class__") = some true)
      (hm : PySem.W.mroIn K C (.type "object") = some true) : TyOf K H (.ref a) (.ref C)
/-- isinstance(x, c) for one class c, a built-in or an own one: kitOne's answer -/
theorem isinst_ok {x : V} {u t : Value} (I : Inv X pins σ H s) (rx : RelV x u) (ty : TyOf X.K H x t) (e : PySem.W.kitOne X.K t c = some b) (h : ∀ tk, Q (.bool b) { s with toks := tk }) :
    wpAny (model X.prog X.w) A (call (.builtin "isinstance") [u, c]) Q E s := by
  cases ty with
  | non => cases (show u = Value.none from rx); exact PySem.W.kia_one PySem.W.kitx_none I.kIn True.intro e (fun z => nomatch z) h
  | bl y => cases (show u = Value.bool y from rx); exact PySem.W.kia_one PySem.W.kitx_bool I.kIn True.intro e (fun z => nomatch z) h
  | int i => obtain ⟨t, q⟩ := (show ∃ t, u = Value.int i t from rx); cases q; exact PySem.W.kia_one PySem.W.kitx_int I.kIn True.intro e (fun z => nomatch z) h
  | str y => obtain ⟨t, q⟩ := (show ∃ t, u = Value.str y t from rx); cases q; exact PySem.W.kia_one PySem.W.kitx_str I.kIn True.intro e (fun z => nomatch z) h
  | flt y => obtain ⟨t, q⟩ := (show ∃ t, u = Value.float y t from rx); cases q; exact PySem.W.kia_one PySem.W.kitx_float I.kIn True.intro e (fun z => nomatch z) h
  | @lst a xs ea =>
    cases (show u = Value.ref a from rx)
    obtain ⟨_, _, n, _, h1⟩ := (show ObjOk X.prog X.w H s.heap a (.lst xs) from I.hok a _ ea)
    exact PySem.W.kia_one PySem.W.kitx_list I.kIn ⟨_, h1, rfl⟩ e (fun z => nomatch z) h
  | @frz a ob xs ea =>
    cases (show u = Value.ref a from rx)
    obtain ⟨_, _, _, n, _, h1⟩ := (show ObjOk X.prog X.w H s.heap a (.frz ob (.lst xs)) from I.hok a _ ea)
    exact PySem.W.kia_one PySem.W.kitx_list I.kIn ⟨_, h1, rfl⟩ e (fun z => nomatch z) h
  | @tup a xs ea =>
    cases (show u = Value.ref a from rx)
    obtain ⟨_, _, _, p⟩ := (show ObjOk X.prog X.w H s.heap a (.tup xs) from I.hok a _ ea)
    obtain ⟨o, h1, h2, _⟩ := p
    exact PySem.W.kia_one PySem.W.kitx_tuple I.kIn ⟨o, h1, h2⟩ e (fun z => nomatch z) h
  | @dK a kvs ea =>
    cases (show u = Value.ref a from rx)
    obtain ⟨_, _, vs, _, p⟩ := (show ObjOk X.prog X.w H s.heap a (.dK kvs) from I.hok a _ ea)
    obtain ⟨o, es, ep, h1, h2, _⟩ := p
    exact PySem.W.kia_one PySem.W.kitx_dict I.kIn ⟨o, h1, h2.1⟩ e (fun z => nomatch z) h
  | @dT a kvs ea =>
    cases (show u = Value.ref a from rx)
    obtain ⟨_, _, xs, _, o, es, ep, h1, h2, _⟩ := (show ObjOk X.prog X.w H s.heap a (.dT kvs) from I.hok a _ ea)
    exact PySem.W.kia_one PySem.W.kitx_dict I.kIn ⟨o, h1, h2.1⟩ e (fun z => nomatch z) h
  | @ins a C dx fs ea cl ha hn htk hm =>
    cases (show u = Value.ref a from rx)
    obtain ⟨mA, O, _⟩ := ins_get I.hok ea
    obtain ⟨od, J, _⟩ := O.look
    exact PySem.W.kia_one (PySem.W.kitx_own (cl.get _) cl.hd ha hn htk hm) I.kIn J e (fun z => nomatch z) h
end
end L2

namespace L2
open PySem PySem.Spec PyProof.Rows

/-! ### room -/
structure Room (k : Nat) (A : Around) : Prop where
  hd : A.handled = none
  dp : A.depth + 3 * k + 5 < recursionLimit
  un : A.units + 16 * k + 200 < cLine
theorem Room.mono {j k : Nat} {A : Around} (r : Room k A) (h : j ≤ k) : Room j A := ⟨r.hd, by have := r.dp; omega, by have := r.un; omega⟩
theorem Room.deeper {k : Nat} {A : Around} (r : Room (k + 1) A) (env : Env) : Room k (A.deeper env) :=
  ⟨r.hd, by have := r.dp; show A.depth + 1 + 3 * k + 5 < _; omega, by have := r.un; show A.units + 3 + 16 * k + 200 < _; omega⟩
theorem Room.in1 {k : Nat} {A : Around} (r : Room (k + 1) A) : Room k A.in1 :=
  ⟨r.hd, by have := r.dp; show A.depth + 3 * k + 5 < _; omega, by have := r.un; show A.units + 1 + 16 * k + 200 < _; omega⟩
theorem make_depth {A : Around} {C : Addr} {us : List Value} {kw : List (Str × Value)} : (A.under (.builtin "type.__call__" ⟨.ref C :: us, kw⟩)).depth = A.depth + 1 := by
  first | rfl | simp [Around.under, Code.weight, Code.isCreation, Code.isGuard, Code.isCaller, Code.frames, Code.isFrame, guardIds]
theorem make_units {A : Around} {C : Addr} {us : List Value} {kw : List (Str × Value)} : (A.under (.builtin "type.__call__" ⟨.ref C :: us, kw⟩)).units = A.units + 1 := by
  first | rfl | simp [Around.under, Code.cUnits, Code.frames, Code.isFrame]
theorem Room.make {k : Nat} {A : Around} (r : Room (k + 1) A) (C : Addr) (us : List Value) (kw : List (Str × Value)) : Room k (A.under (.builtin "type.__call__" ⟨.ref C :: us, kw⟩)) :=
  ⟨r.hd, by have := r.dp; rw [make_depth]; omega, by have := r.un; rw [make_units]; omega⟩
theorem Room.depth {k : Nat} {A : Around} (r : Room k A) : A.depth < recursionLimit := by have := r.dp; omega
theorem Room.units {k : Nat} {A : Around} (r : Room k A) : A.units + 64 < cLine := by have := r.un; omega
/-! ### argument lists and displays -/
def tNil : TA := fun _ H Q => Q [] H
def tCons (ta : TE) (tr : TA) : TA := fun σ H Q => ta σ H fun x H1 => tr σ H1 fun xs H2 => Q (x :: xs) H2
section
variable {X : Cx} {e : Expr} {es : List Expr} {te : TE} {t : TA} {pos : Pos}
theorem pa_nil : PA X [] tNil := fun _ _ _ _ H Q I h => Calls.spliced_nil ⟨[], H, I, .nil, h⟩
theorem pa_cons (ha : PE X e te) (hr : PA X es t) (hs : starEach (e :: es) X.env = (false, eval e X.env) :: starEach es X.env := by rfl) : PA X (e :: es) (tCons te t) := by
  intro pos pins s σ H Q I h
  rw [hs]
  show wpAny _ _ (spliced ((false, eval e X.env) :: backTo pos (starEach es X.env))) _ _ s
  refine Calls.spliced_cons (thn (ha pins s σ H _ I h) fun u s1 ⟨x, H1, I1, r1, q1⟩ => ?_)
  exact thn (hr pos pins s1 σ H1 _ I1 q1) fun us s2 ⟨xs, H2, I2, r2, q2⟩ => ⟨x :: xs, H2, I2, .cons r1 r2, q2⟩

/-- a tuple, a list of written items -/
def tTup (t : TA) : TE := fun σ H Q => t σ H fun xs H1 => xs.length ≤ sizeLine ∧ ∀ p, H1 p = none → Q (.ref p) (upd H1 p (.tup xs))
def tLst (t : TA) : TE := fun σ H Q => t σ H fun xs H1 => xs.length ≤ sizeLine ∧ ∀ p, H1 p = none → Q (.ref p) (upd H1 p (.lst xs))
theorem pe_tup {x1} (h : PA X es t) : PE X (.Tuple es x1 pos) (tTup t) := by
  intro pins s σ H Q I hq
  refine wpAny_Tuple_spliced (thn (h pos pins s σ H _ I hq) fun us s1 ⟨xs, H1, I1, r, z, q⟩ => ⟨by rw [← r.length]; exact z, ?_⟩)
  have hf : H1 s1.heap.objs.size = none := I1.hok.fresh (Nat.le_refl _)
  refine ⟨.ref s1.heap.objs.size, upd H1 s1.heap.objs.size (.tup xs), I1.laid (t' := s1.toks) (fun b u e => Heap.get?_push_of_some _ e) (Nat.le_refl _) ?_, rfl, q _ hf⟩
  exact ⟨z, us, r, ⟨_, Heap.get?_push_size _ rfl, rfl, _, rfl⟩⟩
theorem pe_lst (h : PA X es t) : PE X (.List es pos) (tLst t) := by
  intro pins s σ H Q I hq
  refine wpAny_List_spliced (thn (h pos pins s σ H _ I hq) fun us s1 ⟨xs, H1, I1, r, z, q⟩ => ⟨by rw [← r.length]; exact z, ?_⟩)
  have hf : H1 s1.heap.objs.size = none := I1.hok.fresh (Nat.le_refl _)
  refine ⟨.ref s1.heap.objs.size, upd H1 s1.heap.objs.size (.lst xs), I1.laid (t' := s1.toks) (fun b u e => Heap.get?_push_of_some _ e) (Nat.le_refl _) ?_, rfl, q _ hf⟩
  exact ⟨z, us, 0, r, Heap.get?_push_size _ rfl⟩
end

/-! ### what a def promises -/
/-- a def's promise: the bound arguments in the parameters' order, the heap, the wanted end, the wanted exception -/
abbrev Sp := List V → Hp → VK → XK → Prop
/-- how an exception lies behind a call (file 08 gives it): the callers' frames, abstract heap and state ahead of the call, the wish, the exception, the state -/
abbrev CXT := List Env → Hp → Shared → XK → Value → Shared → Prop

/-- the state at a call -/
structure Env0 (P : Program) (w : World) (K : PySem.W.Frag) (mg : Str → Option Value) (base : Heap) (A : Around) (outer : List Env) (s : Shared) (H : Hp) : Prop where
  frames : A.frames = some outer
  mod : Mod K mg base
  bs : ∀ b o, base.get? b = some o → s.heap.get? b = some o ∧ H b = none
  bsz : base.objs.size ≤ s.heap.objs.size
  funs : s.heap.FunFrames base outer
  frf : ∀ b ∈ frs outer, H b = none
  hok : HOk P w H s.heap
  bare : AllBare s.gens
/-- a call's end -/
def CE (outer : List Env) (P : Program) (w : World) (H : Hp) (s : Shared) (Q : VK) (u : Value) (s' : Shared) : Prop :=
  ∃ v H', s'.os = s.os ∧ AllBare s'.gens ∧ Un (frs outer) [] H H' s.heap s'.heap ∧ HOk P w H' s'.heap ∧ RelV v u ∧ Q v H'
def CR (CX : CXT) (outer : List Env) (P : Program) (w : World) (H : Hp) (s : Shared) (Q : VK) (E : XK) (r : Result) (s' : Shared) : Prop :=
  match r with
  | .ok (.ret u) => CE outer P w H s Q u s'
  | .ok _ => False
  | .error e => CX outer H s E e s'
structure FnOk (P : Program) (w : World) (K : PySem.W.Frag) (mg : Str → Option Value) (base : Heap) (CX : CXT) (k : Nat) (f : Addr) (fd : FuncData) (ps : List Str) (sp : Sp) : Prop where
  len : ∀ vs H Q E, sp vs H Q E → vs.length = ps.length
  run : ∀ (A : Around) (outer : List Env) (s : Shared) (H : Hp) (args : Args) (us : List Value) (vs : List V) (Q : VK) (E : XK), Room k A → Env0 P w K mg base A outer s H → BindsTo s fd args (ps.zip us) → Vals vs us → sp vs H Q E →
    codeAny (model P w) A (.call (.ref f) args) (CR CX outer P w H s Q E) s
theorem FnOk.mono {P : Program} {w : World} {K : PySem.W.Frag} {mg : Str → Option Value} {base : Heap} {CX : CXT} {j k : Nat} {f : Addr} {fd : FuncData} {ps : List Str} {sp : Sp} (F : FnOk P w K mg base CX j f fd ps sp) (h : j ≤ k) :
    FnOk P w K mg base CX k f fd ps sp := ⟨F.len, fun A outer s H args us vs Q E hr => F.run A outer s H args us vs Q E (hr.mono h)⟩
/-- a weaker promise -/
theorem FnOk.imp {P : Program} {w : World} {K : PySem.W.Frag} {mg : Str → Option Value} {base : Heap} {CX : CXT} {k : Nat} {f : Addr} {fd : FuncData} {ps : List Str} {sp sp' : Sp} (F : FnOk P w K mg base CX k f fd ps sp)
    (h : ∀ vs H Q E, sp' vs H Q E → sp vs H Q E) : FnOk P w K mg base CX k f fd ps sp' :=
  ⟨fun vs H Q E q => F.len vs H Q E (h _ _ _ _ q), fun A outer s H args us vs Q E hr he hb hv hs => F.run A outer s H args us vs Q E hr he hb hv (h _ _ _ _ hs)⟩

theorem Env0.make {P : Program} {w : World} {K : PySem.W.Frag} {mg : Str → Option Value} {base : Heap} {A : Around} {outer : List Env} {s : Shared} {H : Hp} (e : Env0 P w K mg base A outer s H) (C : Addr) (us : List Value) (kw : List (Str × Value)) :
    Env0 P w K mg base (A.under (.builtin "type.__call__" ⟨.ref C :: us, kw⟩)) outer s H := ⟨by first | exact e.frames | (simpa [Around.under, Code.envs, Code.isFrame, pushEnvs] using e.frames), e.mod, e.bs, e.bsz, e.funs, e.frf, e.hok, e.bare⟩
theorem Env0.in1 {P : Program} {w : World} {K : PySem.W.Frag} {mg : Str → Option Value} {base : Heap} {A : Around} {outer : List Env} {s : Shared} {H : Hp} (e : Env0 P w K mg base A outer s H) :
    Env0 P w K mg base A.in1 outer s H := ⟨e.frames, e.mod, e.bs, e.bsz, e.funs, e.frf, e.hok, e.bare⟩

section
variable {X : Cx} {pins : List (Addr × Obj)} {σ : St} {H : Hp} {s s' : Shared}
/-- from a body: what a callee wants -/
theorem Inv.env0 (I : Inv X pins σ H s) : Env0 X.prog X.w X.K X.mg X.base X.A X.stack s H :=
  ⟨I.ok.frames, I.ok.mod, I.bs, Nat.le_trans I.ok.bsz I.sz, I.stack, I.stkFree, I.hok, I.bare⟩
/-- behind a call -/
theorem Inv.after {Q : VK} {u : Value} (I : Inv X pins σ H s) (h : CE X.stack X.prog X.w H s Q u s') : EP X pins σ Q u s' := by
  obtain ⟨v, H', os, bare, un, hok, r, q⟩ := h
  obtain ⟨hh, g, d, t, os'⟩ := s'
  obtain rfl : os' = s.os := os
  exact ⟨v, H', I.call (h' := hh) (g' := g) (d' := d) (t' := t) (ch := []) un hok bare (fun b z => absurd z (by simp)), r, q⟩
end

/-! ### calls -/
/-- f(..): the written arguments, then the defaults dvs; E: what is wanted of an exception -/
def tCall (sp : Sp) (dvs : List V) (E : XK) (t : TA) : TE := fun σ H Q => t σ H fun vs H1 => sp (vs ++ dvs) H1 Q E
/-- o.m(..) of an instance of the class at C -/
def tMeth (C : Addr) (m : Str) (sp : Sp) (dvs : List V) (E : XK) (ta : TE) (t : TA) : TE := fun σ H Q => ta σ H fun x H1 => ∃ a dx fs, x = .ref a ∧ H1 a = some (.ins C dx fs) ∧ fs.lookup m = none ∧
  t σ H1 fun vs H2 => sp (x :: (vs ++ dvs)) H2 Q E
/-- C(..): a new instance and its dict, then __init__ -/
def tMake (C : Addr) (sp : Sp) (dvs : List V) (E : XK) (t : TA) : TE := fun σ H Q => t σ H fun vs H1 => ∀ x dx, H1 x = none → H1 dx = none → dx ≠ x →
  sp (.ref x :: (vs ++ dvs)) (upd (upd H1 dx (.own x)) x (.ins C dx [])) (fun v H2 => v = .non ∧ Q (.ref x) H2) E

/-- how the parameters are bound: us the positional arguments, kw the keywords' values by name, ds the defaults that fill up -/
def Binds (K : PySem.W.Frag) (fd : FuncData) (ps : List Str) (ds : List Value) : Prop :=
  ∀ (s : Shared) (us : List Value), K.In s.heap → (us ++ ds).length = ps.length → BindsTo s fd ⟨us, []⟩ (ps.zip (us ++ ds))
/-- every parameter is given -/
theorem Binds.all {K : PySem.W.Frag} {fd : FuncData} {ps : List Str} (h : ∀ us : List Value, us.length = ps.length → bindArgs fd ⟨us, []⟩ = pure (ps.zip us)) : Binds K fd ps [] := fun s us _ hl => by
  rw [List.append_nil] at hl ⊢
  exact .of_eq (h us hl)

/-- an exception of a callee reaches what this body wants of exceptions -/
def Passes (CX : CXT) (X : Cx) (E : XK) : Prop := ∀ (pins : List (Addr × Obj)) (σ : St) (H : Hp) (s : Shared) (e : Value) (s' : Shared), Inv X pins σ H s → CX X.stack H s E e s' → X.xe e s'

section
variable {X : Cx} {CX : CXT} {k : Nat} {f C : Addr} {fd : FuncData} {ps : List Str} {sp : Sp} {dvs : List V} {ds : List Value} {E : XK} {x m : Str} {p pos apos : Pos} {e o : Expr} {es : List Expr} {ta : TE} {t : TA}

/-- the callee runs -/
theorem run_fn {pins : List (Addr × Obj)} {σ : St} {H : Hp} {s : Shared} {Q : VK} {us : List Value} {vs : List V} (F : FnOk X.prog X.w X.K X.mg X.base CX k f fd ps sp) (hr : Room k X.A) (hb : Binds X.K fd ps ds) (hd : Vals dvs ds) (hx : Passes CX X E)
    (I : Inv X pins σ H s) (r : Vals vs us) (h : sp (vs ++ dvs) H Q E) : wpAny (model X.prog X.w) X.A (call (.ref f) us) (EP X pins σ Q) X.xe s := by
  have r2 : Vals (vs ++ dvs) (us ++ ds) := r.append hd
  have hl : (us ++ ds).length = ps.length := by rw [← r2.length]; exact F.len _ _ _ _ h
  refine wpAny_call (codeAny_mono (F.run X.A X.stack s H ⟨us, []⟩ (us ++ ds) (vs ++ dvs) Q E hr I.env0 (hb s us I.kIn hl) r2 h) fun r s' hq => ?_)
  cases r with
  | error e => exact hx pins σ H s e s' I hq
  | ok fl =>
    cases fl with
    | ret u => exact I.after hq
    | next => exact False.elim hq
    | brk => exact False.elim hq
    | cont => exact False.elim hq

theorem pe_call (F : FnOk X.prog X.w X.K X.mg X.base CX k f fd ps sp) (hr : Room k X.A) (hg : Gl X x) (hm : X.mg x = some (.ref f)) (hk : PySem.W.keepIn X.K (.ref f) = true) (hb : Binds X.K fd ps ds) (hd : Vals dvs ds) (hx : Passes CX X E)
    (ha : PA X (e :: es) t) (hdb : (x == ("__debug__" : Str)) = false := by decide) (he : starEach (e :: es) X.env = (false, eval e X.env) :: starEach es X.env := by rfl) (hpl : (backTo pos (starEach es X.env)).any (·.1) = false := by rfl) :
    PE X (.Call (.Name x p) (e :: es) [] pos) (tCall sp dvs E t) := by
  intro pins s σ H Q I h
  refine wpAny_Call_Name_kw (ld_glob I hg hm ?_ hdb)
  refine PySem.W.callWith_K (h₀ := X.base) I.ok.mod.kin hk (thn (ha pos pins s σ H _ I h) fun us s1 ⟨vs, H1, I1, r, q⟩ => ⟨I1.kIn, ?_⟩) he hpl
  exact run_fn F hr hb hd hx I1 r q
/-- o.m(e, ..) -/
theorem pe_meth {pl : Sem Bool} (he : PE X o ta) (c : Cls X.K C) (hm : Meth X.K C m f) (F : FnOk X.prog X.w X.K X.mg X.base CX k f fd ps sp) (hr : Room k X.A) (hb : Binds X.K fd ps ds) (hd : Vals dvs ds) (hx : Passes CX X E) (ha : PA X (e :: es) t)
    (hst : starEach (e :: es) X.env = (false, eval e X.env) :: starEach es X.env := by rfl) (hpl : (backTo pos (starEach es X.env)).any (·.1) = false := by rfl)
    (ht : eval (.Call (.Attribute o m apos) (e :: es) [] pos) X.env = (do
      let ov ← eval o X.env
      standAt apos.atName
      let (f, first) ← holding [ov] (getMethod ov m pl)
      callWith pos f first (backTo pos (starEach (e :: es) X.env)) (backToKw pos (keywordEach [] X.env))) := by rfl) :
    PE X (.Call (.Attribute o m apos) (e :: es) [] pos) (tMeth C m sp dvs E ta t) := by
  intro pins s σ H Q I h
  refine PySem.W.methodCall_KW (pl := pl) (thn (he pins s σ H _ I h) fun u s1 ⟨x, H1, I1, rx, a, dx, fs, ex, ea, l, q⟩ => ?_) ht
  subst ex
  obtain rfl : u = Value.ref a := rx
  refine getmeth_ok I1 ea c hm l ?_
  refine PySem.W.callWith_K (first := [.ref a]) (h₀ := X.base) I.ok.mod.kin hm.kp (thn (ha pos pins s1 σ H1 _ I1 q) fun us s2 ⟨vs, H2, I2, r, q2⟩ => ⟨I2.kIn, ?_⟩) hst hpl
  exact run_fn (us := .ref a :: us) (vs := .ref a :: vs) F hr hb hd hx I2 (.cons rfl r) q2
/-- o.m() -/
theorem pe_meth0 {pl : Sem Bool} (he : PE X o ta) (c : Cls X.K C) (hm : Meth X.K C m f) (F : FnOk X.prog X.w X.K X.mg X.base CX k f fd ps sp) (hr : Room k X.A) (hb : Binds X.K fd ps ds) (hd : Vals dvs ds) (hx : Passes CX X E)
    (ht : eval (.Call (.Attribute o m apos) [] [] pos) X.env = (do
      let ov ← eval o X.env
      standAt apos.atName
      let (f, first) ← holding [ov] (getMethod ov m pl)
      callWith pos f first (backTo pos (starEach [] X.env)) (backToKw pos (keywordEach [] X.env))) := by rfl) :
    PE X (.Call (.Attribute o m apos) [] [] pos) (tMeth C m sp dvs E ta tNil) := by
  intro pins s σ H Q I h
  refine PySem.W.methodCall_KW (pl := pl) (thn (he pins s σ H _ I h) fun u s1 ⟨x, H1, I1, rx, a, dx, fs, ex, ea, l, q⟩ => ?_) ht
  subst ex
  obtain rfl : u = Value.ref a := rx
  refine getmeth_ok I1 ea c hm l ?_
  exact PySem.W.callWith_K0 (first := [.ref a]) I1.kIn hm.kp (run_fn (us := [.ref a]) (vs := [.ref a]) F hr hb hd hx I1 (.cons rfl .nil) q)

/-- what a class must have to be made -/
structure Mk (K : PySem.W.Frag) (C f : Addr) : Prop where
  makes : PySem.W.makesIn K C = true
  init : PySem.W.findIn K (.ref C) "__init__" = some (some (.ref f))
  fn : PySem.W.isFn K (.ref f) = true
  kp : PySem.W.keepIn K (.ref C) = true

theorem run_make {pins : List (Addr × Obj)} {σ : St} {H : Hp} {s : Shared} {Q : VK} {us : List Value} {vs : List V} (M : Mk X.K C f) (F : FnOk X.prog X.w X.K X.mg X.base CX k f fd ps sp) (hr : Room (k + 1) X.A) (hb : Binds X.K fd ps ds) (hd : Vals dvs ds)
    (hx : Passes CX X E) (I : Inv X pins σ H s) (r : Vals vs us)
    (h : ∀ x dx, H x = none → H dx = none → dx ≠ x → sp (.ref x :: (vs ++ dvs)) (upd (upd H dx (.own x)) x (.ins C dx [])) (fun v H2 => v = .non ∧ Q (.ref x) H2) E) :
    wpAny (model X.prog X.w) X.A (call (.ref C) us) (EP X pins σ Q) X.xe s := by
  have hq := h (s.heap.objs.size + 1) s.heap.objs.size (I.hok.fresh (Nat.le_succ _)) (I.hok.fresh (Nat.le_refl _)) (Nat.ne_of_lt (Nat.lt_succ_self _))
  have I2 := Inv.made (C := C) I
  have r2 : Vals (V.ref (s.heap.objs.size + 1) :: (vs ++ dvs)) (Value.ref (s.heap.objs.size + 1) :: (us ++ ds)) := .cons rfl (r.append hd)
  have hl : (Value.ref (s.heap.objs.size + 1) :: us ++ ds).length = ps.length := by
    have e := r2.length
    rw [F.len _ _ _ _ hq] at e
    exact e.symm
  refine wpAny_call (make_map (f := f) I.kIn M.makes M.init (beq_iff_eq.mp M.fn) (codeAny_mono (F.run _ X.stack _ _ ⟨Value.ref (s.heap.objs.size + 1) :: us, []⟩ (Value.ref (s.heap.objs.size + 1) :: (us ++ ds)) _ _ E (hr.make C us [])
    (I2.env0.make C us []) (hb _ (Value.ref (s.heap.objs.size + 1) :: us) I2.kIn hl) r2 hq) fun r s' hq' => ?_))
  cases r with
  | error e => exact hx pins σ _ _ e s' I2 hq'
  | ok fl =>
    cases fl with
    | ret u =>
      obtain ⟨v, H', I3, rv, ev, q3⟩ := I2.after hq'
      subst ev
      exact ⟨rv, ⟨V.ref (s.heap.objs.size + 1), H', I3, rfl, q3⟩⟩
    | next => exact False.elim hq'
    | brk => exact False.elim hq'
    | cont => exact False.elim hq'
theorem pe_make (M : Mk X.K C f) (F : FnOk X.prog X.w X.K X.mg X.base CX k f fd ps sp) (hr : Room (k + 1) X.A) (hg : Gl X x) (hm : X.mg x = some (.ref C)) (hb : Binds X.K fd ps ds) (hd : Vals dvs ds) (hx : Passes CX X E)
    (ha : PA X (e :: es) t) (hdb : (x == ("__debug__" : Str)) = false := by decide) (he : starEach (e :: es) X.env = (false, eval e X.env) :: starEach es X.env := by rfl) (hpl : (backTo pos (starEach es X.env)).any (·.1) = false := by rfl) :
    PE X (.Call (.Name x p) (e :: es) [] pos) (tMake C sp dvs E t) := by
  intro pins s σ H Q I h
  refine wpAny_Call_Name_kw (ld_glob I hg hm ?_ hdb)
  refine PySem.W.callWith_K (h₀ := X.base) I.ok.mod.kin M.kp (thn (ha pos pins s σ H _ I h) fun us s1 ⟨vs, H1, I1, r, q⟩ => ⟨I1.kIn, ?_⟩) he hpl
  exact run_make M F hr hb hd hx I1 r q
end

/-! ### keywords -/
section
variable {X : Cx} {CX : CXT} {k : Nat} {f C : Addr} {fd : FuncData} {ps ks : List Str} {sp : Sp} {E : XK} {x m : Str} {p pos apos kpos : Pos} {e o : Expr} {es : List Expr} {kws : List Keyword} {te ta : TE} {t tk : TA} {nm : Option Str}
variable {g : List Value → List Value → List Value} {gV : List V → List V → List V}
end

/-! ### a def's body keeps its promise -/
/-- names: the parameters first -/
structure FnScope (N P : List Str) (sc : Scope) : Prop where
  kind : sc.kind = .function
  co : sc.isCoroutine = false
  gen : sc.isGenerator = false
  nd : N.Nodup
  pre : N.take P.length = P
  par : ∀ x ∈ P, sc.names.lookup x = some .local ∨ sc.names.lookup x = some .cell
  nofree : ∀ y ∈ sc.names, y.2 ≠ .free

theorem bindL_out {kindOf : Str → Option NameKind} {x : Str} : ∀ {binds : List (Str × Value)} {m : Str → Option Value}, (∀ v, (x, v) ∉ binds) → bindL kindOf binds m x = m x
  | [], _, _ => rfl
  | (n, v) :: r, m, h => by
    unfold bindL
    rw [bindL_out fun w hw => h w (List.mem_cons_of_mem _ hw)]
    split
    · have : x ≠ n := by rintro rfl; exact h v List.mem_cons_self
      simp [this]
    · rfl
theorem bindC_out {kindOf : Str → Option NameKind} {x : Str} : ∀ {binds : List (Str × Value)} {m : Str → Option Value}, (∀ v, (x, v) ∉ binds) → bindC kindOf binds m x = m x
  | [], _, _ => rfl
  | (n, v) :: r, m, h => by
    unfold bindC
    rw [bindC_out fun w hw => h w (List.mem_cons_of_mem _ hw)]
    split
    · rfl
    · have : x ≠ n := by rintro rfl; exact h v List.mem_cons_self
      simp [this]
theorem bindL_get {kindOf : Str → Option NameKind} {x : Str} {v : Value} : ∀ {P : List Str} {vs : List Value} {i : Nat} {m : Str → Option Value}, P.Nodup → P[i]? = some x → vs[i]? = some v → kindOf x = some .local →
    bindL kindOf (P.zip vs) m x = some v
  | [], _, _, _, _, h, _, _ => by simp at h
  | _ :: _, [], _, _, _, _, h, _ => by simp at h
  | p :: P, w :: vs, 0, m, nd, h1, h2, hk => by
    simp at h1 h2; subst h1; subst h2
    show bindL kindOf ((p, w) :: P.zip vs) m p = _
    unfold bindL
    rw [bindL_out fun v hv => (List.nodup_cons.mp nd).1 (List.of_mem_zip hv).1, if_pos hk]
    simp
  | p :: P, w :: vs, i + 1, m, nd, h1, h2, hk => by
    show bindL kindOf ((p, w) :: P.zip vs) m x = _
    unfold bindL
    exact bindL_get (i := i) (List.nodup_cons.mp nd).2 (by simpa using h1) (by simpa using h2) hk
theorem bindC_get {kindOf : Str → Option NameKind} {x : Str} {v : Value} : ∀ {P : List Str} {vs : List Value} {i : Nat} {m : Str → Option Value}, P.Nodup → P[i]? = some x → vs[i]? = some v → kindOf x ≠ some .local →
    bindC kindOf (P.zip vs) m x = some v
  | [], _, _, _, _, h, _, _ => by simp at h
  | _ :: _, [], _, _, _, _, h, _ => by simp at h
  | p :: P, w :: vs, 0, m, nd, h1, h2, hk => by
    simp at h1 h2; subst h1; subst h2
    show bindC kindOf ((p, w) :: P.zip vs) m p = _
    unfold bindC
    rw [bindC_out fun v hv => (List.nodup_cons.mp nd).1 (List.of_mem_zip hv).1, if_neg hk]
    simp
  | p :: P, w :: vs, i + 1, m, nd, h1, h2, hk => by
    show bindC kindOf ((p, w) :: P.zip vs) m x = _
    unfold bindC
    exact bindC_get (i := i) (List.nodup_cons.mp nd).2 (by simpa using h1) (by simpa using h2) hk

/-- the names' values at the entry -/
def start (N : List Str) (vs : List V) : St := vs.map some ++ List.replicate (N.length - vs.length) none

/-- the context of a def's body, at its entry; an exception leaves the frame, then lies as CX says -/
def cxOf (CX : CXT) (P : Program) (w : World) (K : PySem.W.Frag) (mg : Str → Option Value) (base : Heap) (N : List Str) (qual : Str) (scope : Scope) (f : Addr) (cd : Value) (A : Around) (outer : List Env) (s : Shared) (H : Hp) (E : XK) : Cx where
  prog := P
  w := w
  K := K
  mg := mg
  base := base
  A := A.deeper (envOfC qual scope s.heap.objs.size f cd)
  N := N
  s₀ := s
  H₀ := H
  env := envOfC qual scope s.heap.objs.size f cd
  outer := outer
  stack := envOfC qual scope s.heap.objs.size f cd :: outer
  ex := []
  calm := true
  fn := fun _ => true
  pn := []
  xe := fun e s' => wpAny (model P w) (A.deeper (envOfC qual scope s.heap.objs.size f cd)) (leaving (envOfC qual scope s.heap.objs.size f cd) e) (fun _ s'' => CX outer H s E e s'') (fun e' s'' => CX outer H s E e' s'') s'

theorem cell_has {sc : Scope} {n : Nat} {x : Str} (h : sc.names.lookup x = some .cell) : ∃ c, (cellsFrom n sc.names []).lookup x = some c := by
  have q := PySem.W.cellsFrom_some sc.names n [] (.inl h)
  exact Option.isSome_iff_exists.mp q

theorem inv_start {CX : CXT} {P : Program} {w : World} {K : PySem.W.Frag} {mg : Str → Option Value} {base : Heap} {N ps : List Str} {qual : Str} {scope : Scope} {f : Addr} {cd : Value} {A : Around} {outer : List Env} {s s1 : Shared} {H : Hp} {E : XK} {us : List Value} {vs : List V}
    (S : FnScope N ps scope) (hd : A.handled = none) (e0 : Env0 P w K mg base A outer s H) (hl : vs.length = ps.length) (r : Vals vs us)
    (x : InCallC s s.heap.objs.size (bindL (envOfC qual scope s.heap.objs.size f cd).kindOf (ps.zip us) fun _ => none) (cellsFrom (s.heap.objs.size + 1) scope.names []) (bindC (envOfC qual scope s.heap.objs.size f cd).kindOf (ps.zip us) fun _ => none) s1) :
    Inv (cxOf CX P w K mg base N qual scope f cd A outer s H E) [] (start N vs) H s1 := by
  have hpl : ps.length ≤ N.length := by have := congrArg List.length S.pre; rw [List.length_take] at this; omega
  obtain ⟨h1, tk, rfl, hk⟩ := x.done
  have noA : ∀ b : Addr, b ∉ (cxOf CX P w K mg base N qual scope f cd A outer s H E).ex := fun b z => absurd (show b ∈ ([] : List Addr) from z) (by simp)
  refine ⟨⟨e0.mod, S.kind, rfl, rfl, Nat.le_refl _, fun y z c h1 h2 => ?_, fun y hy => ?_, fun y c _ h => ?_, fun _ => hd, Around.frames_deeper e0.frames, .inr ⟨rfl, rfl⟩, fun b z => absurd z (noA b), e0.bs, e0.bsz, fun b _ _ => noA b, fun b z => absurd z (noA b), e0.funs, e0.frf⟩,
    rfl, e0.bare, Un.kept hk, ⟨_, x.toInCall.ns, fun i y v h1 h2 h3 => ?_⟩, fun y c h => ⟨_, x.cell y c h⟩, e0.hok.fresh (Nat.le_refl _), fun y c h => ?_, fun p hp => absurd (show p ∈ ([] : List (Addr × Obj)) from hp) (by simp), e0.hok.kept hk, ?_⟩
  · exact name_of_addr x.apart (PySem.mem_of_lookup h1) (PySem.mem_of_lookup h2)
  · have hy : scope.names.lookup y = some .cell ∨ scope.names.lookup y = some .free := hy
    rcases hy with hy | hy
    · exact cell_has hy
    · exact absurd rfl (S.nofree _ (PySem.mem_of_lookup hy))
  · exact Nat.le_of_lt (x.above y c (PySem.mem_of_lookup h))
  · have hi : i < vs.length := by
      unfold start at h2
      by_cases hi : i < vs.length
      · exact hi
      · rw [List.getElem?_append_right (by simpa using hi)] at h2
        rw [List.getElem?_replicate] at h2
        split at h2 <;> cases h2
    have ha : vs[i]? = some v := by
      unfold start at h2
      rw [List.getElem?_append_left (by simpa using hi), List.getElem?_map] at h2
      cases e : vs[i]? with
      | none => rw [e] at h2; cases h2
      | some a => rw [e] at h2; cases h2; rfl
    obtain ⟨u, hu, rv⟩ := r.get ha
    have hp : ps[i]? = some y := by
      rw [← S.pre, List.getElem?_take_of_lt (by omega)]; exact h1
    have ndP : ps.Nodup := by rw [← S.pre]; exact S.nd.sublist (List.take_sublist _ _)
    refine ⟨u, rv, ?_⟩
    rcases S.par y (List.mem_of_getElem? hp) with k | k
    · exact .inl ⟨k, bindL_get ndP hp hu k⟩
    · obtain ⟨c, e⟩ := cell_has (n := s.heap.objs.size + 1) k
      refine .inr ⟨.inl k, c, e, ?_⟩
      have q := x.cell y c e
      rw [bindC_get ndP hp hu (by show scope.names.lookup y ≠ _; rw [k]; decide)] at q
      exact q
  · exact e0.hok.fresh (Nat.le_of_lt (x.above y c (PySem.mem_of_lookup h)))
  · unfold start
    show _ = N.length
    rw [List.length_append, List.length_map, List.length_replicate]
    omega

/-- THE RULE: a def (or a method) of the text, by its body. The body's reading t is chosen for each entry; it is run at the parameters' values -/
theorem fn_of {CX : CXT} {P : Program} {w : World} {K : PySem.W.Frag} {mg : Str → Option Value} {base : Heap} {k : Nat} {f : Addr} {name qual : Str} {params : Arguments} {body : List Stmt} {scope : Scope} {dV kV doc pm cdv ct oc : Value} {an od : Option Addr}
    {osl : Array (Option Value)} {N ps : List Str} {sp : Sp} (lk : K.lookup f = some ⟨oc, od, .func (PySem.W.fnOf name qual params body scope dV kV doc pm an cdv ct), osl⟩) (hcd : PySem.W.codeIn K cdv qual = true) (S : FnScope N ps scope)
    (len : ∀ vs H Q E, sp vs H Q E → vs.length = ps.length)
    (hbody : ∀ (A : Around) (outer : List Env) (s : Shared) (H : Hp) (vs : List V) (Q : VK) (E : XK), Room k (A.deeper (envOfC qual scope s.heap.objs.size f cdv)) → sp vs H Q E →
      ∃ t, PSs (cxOf CX P w K mg base N qual scope f cdv A outer s H E) body t ∧ t { nx := fun _ H' => Q .non H', rt := Q } (start N vs) H) :
    FnOk P w K mg base CX (k + 1) f (PySem.W.fnOf name qual params body scope dV kV doc pm an cdv ct) ps sp := by
  refine ⟨len, fun A outer s H args us vs Q E hr e0 hb r hsp => ?_⟩
  have hl := len _ _ _ _ hsp
  have KX : K.In s.heap := e0.mod.kin.keeps fun b o e => (e0.bs b o e).1
  have lim : s.heap.NoLimit := e0.mod.nolimit.keeps fun b o e => (e0.bs b o e).1
  have hkind : ∀ y ∈ ps.zip us, scope.names.lookup y.1 = some .local ∨ (scope.names.lookup y.1 = some .cell ∧ ((cellsFrom (s.heap.objs.size + 1) scope.names []).lookup y.1).isSome = true) := fun ⟨n, v⟩ hy => by
    rcases S.par n (List.of_mem_zip hy).1 with q | q
    · exact .inl q
    · exact .inr ⟨q, PySem.W.cellsFrom_some _ _ _ (.inl q)⟩
  refine codeAny_call_function hr.depth (KX _ _ lk) rfl S.co S.gen rfl (PySem.W.codeRec_of KX hcd) (hb _ _ _ _ ?_)
  refine wpAny_newFunctionEnv_cells S.kind hkind fun env he s1 x => ?_
  subst he
  refine ⟨lim.keeps x.toInCall.keep, codeAny_func ?_⟩
  obtain ⟨t, ht, hq⟩ := hbody A outer s H vs Q E (hr.deeper _) hsp
  have I : Inv (cxOf CX P w K mg base N qual scope f cdv A outer s H E) [] (start N vs) H s1 := inv_start S hr.hd e0 hl r x
  refine wpAny_mono (ht [] s1 (start N vs) H _ I hq) (fun fl s' hs => ?_) fun e s' hs => hs
  have fin : ∀ {σ' : St} {H' : Hp} {v : V} {u : Value}, Inv (cxOf CX P w K mg base N qual scope f cdv A outer s H E) [] σ' H' s' → RelV v u → Q v H' → CE outer P w H s Q u s' :=
    fun {σ' H' v u} J rv q => ⟨v, H', J.os, J.bare, J.base, J.hok, rv, q⟩
  cases fl with
  | ret u =>
    obtain ⟨v, σ', H', J, rv, q⟩ := hs
    exact fin J rv q
  | next =>
    obtain ⟨σ', H', J, q⟩ := hs
    exact fin (v := V.non) (u := Value.none) J rfl q
  | brk =>
    obtain ⟨_, _, _, q⟩ := hs
    exact False.elim q
  | cont =>
    obtain ⟨_, _, _, q⟩ := hs
    exact False.elim q
end L2

namespace L2
open PySem PySem.Spec PyProof.Rows
section
variable {X : Cx} {x : Str} {p pos : Pos} {e : Expr} {es : List Expr} {t : TA} {id T : String} {r : List V → Hp → VK → Prop}

def tCB (r : List V → Hp → VK → Prop) (t : TA) : TE := fun σ H Q => t σ H fun vs H1 => r vs H1 Q
/-- f(e, ..), f a built-in function -/
theorem pe_callB (hc : CallR X (.builtin id) r) (hg : Gl X x) (hm : X.mg x = none) (hv : bootBuiltins x = some (.builtin id)) (ha : PA X (e :: es) t) (hn : x ≠ "__name__" := by decide) (hdb : (x == ("__debug__" : Str)) = false := by decide)
    (he : starEach (e :: es) X.env = (false, eval e X.env) :: starEach es X.env := by rfl) (hpl : (backTo pos (starEach es X.env)).any (·.1) = false := by rfl) : PE X (.Call (.Name x p) (e :: es) [] pos) (tCB r t) := by
  intro pins s σ H Q I h
  refine wpAny_Call_Name_kw (ld_blt I hg hm hv ?_ hn hdb)
  exact PyProof.Rows.callWith_builtin1 (thn (ha pos pins s σ H _ I h) fun us s1 ⟨vs, H1, I1, r1, q1⟩ => hc pins s1 σ H1 vs us Q I1 r1 q1) he hpl
/-- T(e, ..), T a built-in type -/
theorem pe_callTy (hc : CallR X (.type T) r) (hg : Gl X x) (hm : X.mg x = none) (hv : bootBuiltins x = some (.type T)) (ha : PA X (e :: es) t) (hn : x ≠ "__name__" := by decide) (hdb : (x == ("__debug__" : Str)) = false := by decide)
    (he : starEach (e :: es) X.env = (false, eval e X.env) :: starEach es X.env := by rfl) (hpl : (backTo pos (starEach es X.env)).any (·.1) = false := by rfl) : PE X (.Call (.Name x p) (e :: es) [] pos) (tCB r t) := by
  intro pins s σ H Q I h
  refine wpAny_Call_Name_kw (ld_blt I hg hm hv ?_ hn hdb)
  exact PyProof.Rows.callWith_type1 (thn (ha pos pins s σ H _ I h) fun us s1 ⟨vs, H1, I1, r1, q1⟩ => hc pins s1 σ H1 vs us Q I1 r1 q1) he hpl
end
end L2

namespace HT
open PySem PyProof.Rows

section
open PySem.SeqAt
open PySem.AutoSeq1 (wpAny_loadPart')
open PySem.MeetsSeq PySem.MeetsSeq2 PySem.MeetsSeq3

end

section
variable {prog : Program} {w : World} {A : Around} {E : Value → Shared → Prop} {s : Shared}

/-! ### t[a:b], not the whole -/
/-- a slice's bound as a place among n (d where it is left out) -/
def sIx (n d : Nat) : Option Int → Nat
  | none => d
  | some v => if v < 0 then (v + (n : Int)).toNat else min v.toNat n
end
end HT

namespace L2
open PySem PySem.Spec PyProof.Rows

/-! ### the parts of a slice -/
abbrev TO := St → Hp → (Option Int → Hp → Prop) → Prop
section
variable {X : Cx} {e : Expr} {te : TE} {lo hi : Option Expr} {tl th : TO} {pos p2 : Pos}

/-- what a slice of a value is, by values: the slice object stands at sl -/
def SlR (X : Cx) (r : V → Option Int → Option Int → Hp → VK → Prop) : Prop :=
  ∀ (pins : List (Addr × Obj)) (s : Shared) (σ : St) (H : Hp) (x : V) (v vl vu : Value) (lo hi : Option Int) (sl : Addr) (Q : VK), Inv X pins σ H s → RelV x v → s.heap.IsSliceOf sl vl vu .none → IsPart vl lo → IsPart vu hi → r x lo hi H Q →
    ∃ T id, typeLookup (.type T) "__getitem__" = pure (some (.builtin id)) ∧ s.TypeIs v T ∧ wpAny (model X.prog X.w) X.A (getItem v (.ref sl)) (EP X pins σ Q) X.xe s
/-- the items of xs[lo:hi] -/
def cutV (xs : List V) (lo hi : Option Int) : List V := (xs.drop (HT.sIx xs.length 0 lo)).take (HT.sIx xs.length xs.length hi - HT.sIx xs.length 0 lo)
theorem cutV_length (xs : List V) (lo hi : Option Int) : (cutV xs lo hi).length ≤ xs.length := by
  unfold cutV
  rw [List.length_take, List.length_drop]
  omega
/-! ### t < u, t + u -/
end
end L2

namespace L2
open PySem PySem.Spec PyProof.Rows

/-! ### places -/
/-- the place that an index of any sign means -/
def ixN (n : Nat) (i : Int) : Option Nat := if 0 ≤ i then (if i < n then some i.toNat else none) else if -(n : Int) ≤ i then some (i + n).toNat else none
def atI {α : Type} (xs : List α) (i : Int) : Option α := (ixN xs.length i).bind fun j => xs[j]?
theorem ixN_seq {n : Nat} {i : Int} {j : Nat} (h : ixN n i = some j) : seqIndex? i n = some j ∧ j < n ∧ -(n : Int) ≤ i ∧ i < n := by
  unfold ixN at h
  by_cases h0 : 0 ≤ i
  · rw [if_pos h0] at h
    by_cases h1 : i < n
    · rw [if_pos h1] at h
      have e : i.toNat = j := Option.some.inj h
      exact ⟨by rw [seqIndex_of h0 h1, e], by omega, by omega, h1⟩
    · rw [if_neg h1] at h; cases h
  · rw [if_neg h0] at h
    by_cases h1 : -(n : Int) ≤ i
    · rw [if_pos h1] at h
      have e : (i + n).toNat = j := Option.some.inj h
      exact ⟨by rw [seqIndex_neg (by omega) h1, e], by omega, h1, by omega⟩
    · rw [if_neg h1] at h; cases h
theorem atI_get {α : Type} {xs : List α} {i : Int} {v : α} (h : atI xs i = some v) : ∃ j, seqIndex? i xs.length = some j ∧ xs[j]? = some v ∧ j < xs.length ∧ -(xs.length : Int) ≤ i ∧ i < xs.length := by
  unfold atI at h
  cases e : ixN xs.length i with
  | none => rw [e] at h; cases h
  | some j =>
    rw [e] at h
    obtain ⟨h1, h2, h3, h4⟩ := ixN_seq e
    exact ⟨j, h1, h, h2, h3, h4⟩
theorem atI_nat {α : Type} {xs : List α} {j : Nat} {v : α} (h : xs[j]? = some v) : atI xs (j : Int) = some v := by
  have hj : j < xs.length := (List.getElem?_eq_some_iff.mp h).1
  have e : ixN xs.length (j : Int) = some j := by
    unfold ixN
    rw [if_pos (by omega), if_pos (by omega)]; simp
  unfold atI; rw [e]; exact h
/-! ### what may be subscripted -/
/-- what stands as an index of a plain subscript -/
def PlainIx (b : Expr) : Prop := ∀ o i, subscripted b false o i = operate [o, i] (getItem o i)
/-- a subscript by values -/
def IxR (X : Cx) (r : R2) : Prop :=
  ∀ (value slice : Expr) (pins : List (Addr × Obj)) (s : Shared) (σ : St) (H : Hp) (x y : V) (v u : Value) (Q : VK), Inv X pins σ H s → RelV x v → RelV y u → r x y H Q →
    subscripted slice false v u = operate [v, u] (getItem v u) → wpAny (model X.prog X.w) X.A (subscriptTail value slice v u) (EP X pins σ Q) X.xe s
/-- a call of a builtin's method by values: the receiver, the arguments -/
def MtR (X : Cx) (id : String) (r : V → List V → Hp → VK → Prop) : Prop :=
  ∀ (pins : List (Addr × Obj)) (s : Shared) (σ : St) (H : Hp) (x : V) (xs : List V) (v : Value) (us : List Value) (Q : VK), Inv X pins σ H s → RelV x v → Vals xs us → r x xs H Q →
    wpAny (model X.prog X.w) X.A (call (.builtin id) (v :: us)) (EP X pins σ Q) X.xe s
section
variable {X : Cx} {a b : Expr} {ta tb : TE} {pos : Pos}
/-- a[b] -/
theorem pe_ix {r : R2} (hr : IxR X r) (ha : PE X a ta) (hb : PE X b tb) (hs : PlainIx b) : PE X (.Subscript a b pos) (tOp r ta tb) := by
  intro pins s σ H Q I h
  exact Subscript_ (binT ha hb I h fun v u s2 x y H2 I2 rx ry q => hr a b pins s2 σ H2 x y v u Q I2 rx ry q (hs _ _))

def rIxL (K : PySem.W.Frag) : R2 := fun x y H Q => ∃ p xs i v, x = .ref p ∧ y = .int i ∧ SqL K H p xs ∧ atI xs i = some v ∧ Q v H
def rIxT (K : PySem.W.Frag) : R2 := fun x y H Q => ∃ p xs i v, x = .ref p ∧ y = .int i ∧ SqT K H p xs ∧ atI xs i = some v ∧ Q v H
theorem ix_list : IxR X (rIxL X.K) := by
  intro value slice pins s σ H x y v u Q I rx ry h hs
  obtain ⟨p, xs, i, z, rfl, rfl, hq, he, q⟩ := h
  cases rx
  obtain ⟨t, rfl⟩ := ry
  obtain ⟨its, r, pl, hz⟩ := I.list hq
  obtain ⟨j, h1, h2, h3, h4, h5⟩ := atI_get he
  obtain ⟨w, ew, rw'⟩ := r.get h2
  have hl := r.length
  have hn := line63
  have fin : EP X pins σ Q w s := ⟨z, H, I, rw', q⟩
  by_cases h0 : 0 ≤ i
  · have hj : i.toNat = j := by
      rw [seqIndex_of h0 h5] at h1
      exact Option.some.inj h1
    exact item_listR pl.isList h0 (by omega) (by rw [hj]; simpa using ew) fin hs
  · have hj : (i + (its.toArray.size : Int)).toNat = j := by
      rw [seqIndex_neg (by omega) h4] at h1
      rw [List.size_toArray, ← hl]
      exact Option.some.inj h1
    exact subscriptTail_builtinR (x := w) pl.isList.typeIs slot_list_getitem.lookup
      (wpAny_getItem_list_neg (Q := fun r s' => r = w ∧ EP X pins σ Q r s') pl.isList (by omega) (by rw [List.size_toArray] <;> omega) (by omega) (by rw [hj]; simpa using ew) ⟨rfl, fin⟩) hs
theorem ix_tup : IxR X (rIxT X.K) := by
  intro value slice pins s σ H x y v u Q I rx ry h hs
  obtain ⟨p, xs, i, z, rfl, rfl, hq, he, q⟩ := h
  cases rx
  obtain ⟨t, rfl⟩ := ry
  obtain ⟨its, r, pl, hz⟩ := I.tuple hq
  obtain ⟨j, h1, h2, h3, h4, h5⟩ := atI_get he
  obtain ⟨w, ew, rw'⟩ := r.get h2
  have hl := r.length
  have hn := line63
  have fin : EP X pins σ Q w s := ⟨z, H, I, rw', q⟩
  exact subscriptTail_builtinR (x := w) pl.typeIs slot_tuple_getitem.lookup
    (getItem_tuple (j := j) (Q := fun r s' => r = w ∧ EP X pins σ Q r s') pl (by omega) (by omega) (by rw [List.size_toArray, ← hl]; exact h1) (by simpa using ew) ⟨rfl, fin⟩) hs
/-! ### xs[i] = v, any sign -/
/-- the list's object behind a store -/
theorem mapSeq_set (its : List Value) (n j : Nat) (u : Value) : Obj.mapSeq (·.setIfInBounds j u) { cls := .type "list", data := .seq its.toArray n } = { cls := .type "list", data := .seq (its.set j u).toArray n } := by
  simp [Obj.mapSeq]
theorem Inv.lst {pins : List (Addr × Obj)} {σ : St} {H : Hp} {s : Shared} {p : Addr} {xs : List V} (I : Inv X pins σ H s) (h : H p = some (.lst xs)) :
    ∃ (its : List Value) (n : Nat), Vals xs its ∧ s.heap.get? p = some { cls := .type "list", data := .seq its.toArray n } ∧ xs.length ≤ sizeLine := by
  obtain ⟨z, its, n, r, e⟩ := I.hok p _ h
  exact ⟨its, n, r, e, z⟩
/-- the list at p is written by an update of its object -/
theorem Inv.lstUpd {pins : List (Addr × Obj)} {σ : St} {H : Hp} {s : Shared} {p : Addr} {xs ys : List V} {its its' : List Value} {n n' : Nat} {f : Obj → Obj} (I : Inv X pins σ H s) (h : H p = some (.lst xs))
    (ho : s.heap.get? p = some { cls := .type "list", data := .seq its.toArray n }) (hf : f { cls := .type "list", data := .seq its.toArray n } = { cls := .type "list", data := .seq its'.toArray n' }) (r : Vals ys its') (hz : ys.length ≤ sizeLine) (t : Nat) :
    Inv X pins σ (upd H p (.lst ys)) { s with heap := s.heap.update p f, toks := t } := by
  have e : (s.heap.update p f).get? p = some { cls := .type "list", data := .seq its'.toArray n' } := by
    rw [Heap.get?_update_self f ho (by rw [hf] <;> rfl), hf]
  refine I.write (x := p) (e := p) (by rw [h]; trivial) (.inl rfl) (fun b u hb q => (Heap.get?_update_other _ _ (Ne.symm hb)).trans q) ⟨_, e⟩ ?_
  exact ⟨hz, its', n', r, e⟩
def rSetL : V → V → V → Hp → (Hp → Prop) → Prop := fun o i v H Q => ∃ p xs k j, o = .ref p ∧ i = .int k ∧ H p = some (.lst xs) ∧ ixN xs.length k = some j ∧ Q (upd H p (.lst (xs.set j v)))
theorem set_list : PSet X rSetL := by
  intro pins s σ H o i v ov iv u Q I ro ri rv h
  obtain ⟨p, xs, k, j, rfl, rfl, hp, hj, q⟩ := h
  cases ro
  obtain ⟨t, rfl⟩ := ri
  obtain ⟨its, n, r, ho, hz⟩ := I.lst hp
  obtain ⟨h1, h2, h3, h4⟩ := ixN_seq hj
  have hl := r.length
  have hn := line63
  have I' : Inv X pins σ (upd H p (.lst (xs.set j v))) { s with heap := s.heap.update p (Obj.mapSeq (·.setIfInBounds j u)) } :=
    I.lstUpd hp ho (mapSeq_set its n j u) (r.set rv j) (by rw [List.length_set]; exact hz) s.toks
  by_cases h0 : 0 ≤ k
  · have hk : k.toNat = j := by
      rw [seqIndex_of h0 h4] at h1
      exact Option.some.inj h1
    exact PySem.W.ki_setAt ho h0 (by omega) (by rw [List.size_toArray, ← hl]; exact h4) (by rw [hk]; exact ⟨_, I', q⟩)
  · have hk : (k + (its.toArray.size : Int)).toNat = j := by
      rw [seqIndex_neg (by omega) h3] at h1
      rw [List.size_toArray, ← hl]
      exact Option.some.inj h1
    exact PySem.W.ki_setBack ho (by omega) (by rw [List.size_toArray, ← hl]; exact h3) (by omega) (by rw [hk]; exact ⟨_, I', q⟩)

/-! ### slices -/
theorem slice_bounds (lo hi : Option Int) (n : Nat) : (sliceBounds lo hi none n).1 = ((HT.sIx n 0 lo : Nat) : Int) ∧ (sliceBounds lo hi none n).2.1 = ((HT.sIx n n hi : Nat) : Int) ∧ (sliceBounds lo hi none n).2.2 = 1 := by
  refine ⟨?_, ?_, rfl⟩
  · cases lo with
    | none => simp [sliceBounds, HT.sIx]
    | some i =>
      simp only [sliceBounds, HT.sIx, Option.getD_none, show (1 : Int) > 0 by decide, if_true]
      by_cases h : i < 0
      · simp only [h, if_true] <;> omega
      · simp only [h, if_false] <;> omega
  · cases hi with
    | none => simp [sliceBounds, HT.sIx]
    | some i =>
      simp only [sliceBounds, HT.sIx, Option.getD_none, show (1 : Int) > 0 by decide, if_true]
      by_cases h : i < 0
      · simp only [h, if_true] <;> omega
      · simp only [h, if_false] <;> omega
theorem slicePick_cut (its : List Value) (lo hi : Option Int) : slicePick its.toArray lo hi none = ((its.drop (HT.sIx its.length 0 lo)).take (HT.sIx its.length its.length hi - HT.sIx its.length 0 lo)).toArray := by
  obtain ⟨h1, h2, h3⟩ := slice_bounds lo hi its.toArray.size
  unfold slicePick
  rw [h1, h2, h3]
  simp only [sliceRange_one, pick_run, List.size_toArray] <;> rfl
/-- xs[lo:hi] of a list: a new list -/
def rSlL (K : PySem.W.Frag) : V → Option Int → Option Int → Hp → VK → Prop := fun x lo hi H Q => ∃ a xs, x = .ref a ∧ SqL K H a xs ∧ ∀ p, H p = none → Q (.ref p) (upd H p (.lst (cutV xs lo hi)))
theorem sl_list : SlR X (rSlL X.K) := by
  intro pins s σ H x v vl vu lo hi sl Q I rx hs pl pu h
  obtain ⟨a, xs, rfl, hx, q⟩ := h
  cases rx
  obtain ⟨its, r, ht, hz⟩ := I.list hx
  have hlen := r.length
  refine ⟨"list", _, slot_list_getitem.lookup, ht.isList.typeIs, ?_⟩
  refine wpAny_getItem_list_slice ht.isList hs pl pu .none (by simp) ?_ (by rw [List.size_toArray] <;> omega)
  rw [slicePick_cut, ← hlen]
  refine ⟨.ref s.heap.objs.size, _, I.laid (t' := s.toks) (o := .lst (cutV xs lo hi)) (fun b ob q => Heap.get?_push_of_some _ q) (Nat.le_refl _) ?_, rfl, q _ (I.hok.fresh (Nat.le_refl _))⟩
  exact ⟨Nat.le_trans (cutV_length xs lo hi) hz, _, 0, (r.drop (HT.sIx xs.length 0 lo)).take (HT.sIx xs.length xs.length hi - HT.sIx xs.length 0 lo), Heap.get?_push_size _ rfl⟩

/-! ### in, not in: flat items -/
def flatV : V → Bool
  | .non => true
  | .bl _ => true
  | .int _ => true
  | .str _ => true
  | _ => false
/-- == of flat values -/
def eqV : V → V → Bool
  | .non, .non => true
  | .bl a, .bl b => a == b
  | .bl a, .int b => (if a then 1 else 0) == b
  | .int a, .bl b => a == (if b then 1 else 0)
  | .int a, .int b => a == b
  | .str a, .str b => a == b
  | _, _ => false
theorem eqAt_V {A : Around} {s : Shared} {y x : V} {u v : Value} (ry : RelV y u) (rx : RelV x v) (fy : flatV y = true) (fx : flatV x = true) : SeqAt.EqAt A s u v (eqV y x) := by
  cases y with
  | non =>
    cases ry
    cases x with
    | non => cases rx; exact SeqAt.EqAt.same _
    | bl b => cases rx; exact SeqAt.EqAt.none_bool b
    | int b => obtain ⟨t, rfl⟩ := rx; exact SeqAt.EqAt.none_int b t
    | str b => obtain ⟨t, rfl⟩ := rx; exact SeqAt.EqAt.none_str b t
    | _ => exact absurd (show false = true from fx) Bool.false_ne_true
  | bl a =>
    cases ry
    cases x with
    | non => cases rx; exact SeqAt.EqAt.bool_none a
    | bl b => cases rx; exact SeqAt.EqAt.bool_bool a b
    | int b => obtain ⟨t, rfl⟩ := rx; exact SeqAt.EqAt.bool_int a b t
    | str b => obtain ⟨t, rfl⟩ := rx; exact SeqAt.EqAt.bool_str a b t
    | _ => exact absurd (show false = true from fx) Bool.false_ne_true
  | int a =>
    obtain ⟨t', rfl⟩ := ry
    cases x with
    | non => cases rx; exact SeqAt.EqAt.int_none a t'
    | bl b => cases rx; exact SeqAt.EqAt.int_bool a t' b
    | int b => obtain ⟨t, rfl⟩ := rx; exact SeqAt.EqAt.int_int a t' b t
    | str b => obtain ⟨t, rfl⟩ := rx; exact SeqAt.EqAt.int_str a t' b t
    | _ => exact absurd (show false = true from fx) Bool.false_ne_true
  | str a =>
    obtain ⟨t', rfl⟩ := ry
    cases x with
    | non => cases rx; exact SeqAt.EqAt.str_none a t'
    | bl b => cases rx; exact SeqAt.EqAt.str_bool a t' b
    | int b => obtain ⟨t, rfl⟩ := rx; exact SeqAt.EqAt.str_int a t' b t
    | str b => obtain ⟨t, rfl⟩ := rx; exact SeqAt.EqAt.str_str a t' b t
    | _ => exact absurd (show false = true from fx) Bool.false_ne_true
  | _ => exact absurd (show false = true from fy) Bool.false_ne_true
/-! ### len, list(x), tuple(x) of any list or tuple that is read -/
theorem call_len_seq : CallR X (.builtin "len") (fun xs H Q => ∃ p ys, xs = [.ref p] ∧ (SqL X.K H p ys ∨ SqT X.K H p ys) ∧ Q (.int ys.length) H) := by
  intro pins s σ H xs us Q I r h
  obtain ⟨p, ys, rfl, hq, q⟩ := h
  obtain ⟨u, rfl, rx⟩ := vals1 r
  cases rx
  have hn := line63
  rcases hq with hq | hq
  · obtain ⟨its, r', pl, hz⟩ := I.list hq
    have hlen := r'.length
    exact Calls.call_len_list pl.isList (by simp only [List.size_toArray] <;> omega) ⟨.int ys.length, H, I.tok _, ⟨s.toks + 1, by rw [List.size_toArray, hlen]⟩, q⟩
  · obtain ⟨its, r', pl, hz⟩ := I.tuple hq
    have hlen := r'.length
    exact len_tuple pl (by simp only [List.size_toArray] <;> omega) ⟨.int ys.length, H, I.tok _, ⟨s.toks + 1, by rw [List.size_toArray, hlen]⟩, q⟩
theorem call_tuple_of : CallR X (.type "tuple") (fun xs H Q => ∃ p ys, xs = [.ref p] ∧ ((SqL X.K H p ys ∧ ∀ l, H l = none → Q (.ref l) (upd H l (.tup ys))) ∨ (SqT X.K H p ys ∧ Q (.ref p) H))) := by
  intro pins s σ H xs us Q I r h
  obtain ⟨p, ys, rfl, h⟩ := h
  obtain ⟨u, rfl, rx⟩ := vals1 r
  cases rx
  rcases h with ⟨hq, q⟩ | ⟨hq, q⟩
  · obtain ⟨its, r', pl, hz⟩ := I.list hq
    have hlen := r'.length
    refine call_tuple_list pl.isList (fun h' kp => ?_) (by simp only [List.size_toArray] <;> omega)
    have I1 : Inv X pins σ H { s with heap := h' } := I.kept (t' := s.toks) kp
    have I2 : Inv X pins σ (upd H h'.objs.size (.tup ys)) { s with heap := h'.push { cls := .type "tuple", data := .seq its.toArray } } :=
      I1.laid (t' := s.toks) (fun b o e => Heap.get?_push_of_some _ e) (Nat.le_refl _) (show ObjOk X.prog X.w _ _ _ (.tup ys) from ⟨hz, its, r', IsTup.new _ _⟩)
    exact ⟨.ref h'.objs.size, _, I2, rfl, q _ (I1.hok.fresh (Nat.le_refl _))⟩
  · obtain ⟨its, r', pl, hz⟩ := I.tuple hq
    exact call_tuple_same pl ⟨.ref p, H, I, rfl, q⟩

/-! ### the call of a builtin's method: o.m(..) -/
/-- the value is of that builtin type -/
def tyV (K : PySem.W.Frag) (T : String) (x : V) (H : Hp) : Prop := match x with
  | .str _ => T = "str"
  | .int _ => T = "int"
  | .ref p => (T = "list" ∧ ∃ xs, SqL K H p xs) ∨ (T = "tuple" ∧ ∃ o, K.lookup p = some o ∧ o.cls = .type "tuple" ∧ o.dict = none) ∨
      (T = "dict" ∧ ((∃ kvs, H p = some (.dK kvs)) ∨ ∃ kvs, H p = some (.dT kvs))) ∨ (T = "set" ∧ ∃ S n, H p = some (.set S n))
  | _ => False
theorem tyV_is {pins : List (Addr × Obj)} {σ : St} {H : Hp} {s : Shared} {T : String} {x : V} {v : Value} (I : Inv X pins σ H s) (r : RelV x v) (ty : tyV X.K T x H) :
    s.TypeIs v T ∧ ∀ a, v = .ref a → ∃ ob, s.heap.get? a = some ob ∧ ob.dict = none := by
  cases x with
  | str z =>
    obtain ⟨t, rfl⟩ := r
    cases (show T = "str" from ty)
    exact ⟨typeIs_str s z t, fun _ e => nomatch e⟩
  | int i =>
    obtain ⟨t, rfl⟩ := r
    cases (show T = "int" from ty)
    exact ⟨typeIs_int s i t, fun _ e => nomatch e⟩
  | ref p =>
    cases r
    rcases ty with ⟨rfl, xs, hq⟩ | ⟨rfl, o, hk, hc, hd⟩ | ⟨rfl, hk⟩ | ⟨rfl, S, n, hk⟩
    · obtain ⟨its, _, pl, _⟩ := I.list hq
      refine ⟨pl.isList.typeIs, fun a e => ?_⟩
      cases e
      obtain ⟨o, n, e, c, hd, _⟩ := pl
      exact ⟨o, e, hd⟩
    · refine ⟨⟨o, I.kIn p o hk, hc⟩, fun a e => ?_⟩
      cases e
      exact ⟨o, I.kIn _ o hk, hd⟩
    · have z : ∃ o, s.heap.get? p = some o ∧ o.ExactDict := by
        rcases hk with ⟨kvs, hk⟩ | ⟨kvs, hk⟩
        · obtain ⟨_, _, _, _, o, _, _, e, ex, _⟩ := I.hok p _ hk
          exact ⟨o, e, ex⟩
        · obtain ⟨_, _, _, _, o, _, _, e, ex, _⟩ := I.hok p _ hk
          exact ⟨o, e, ex⟩
      obtain ⟨o, e, ex⟩ := z
      refine ⟨⟨o, e, ex.1⟩, fun a e2 => ?_⟩
      cases e2
      exact ⟨o, e, ex.2.1⟩
    · obtain ⟨o, _, _, _, e, ex, _⟩ := I.hok p _ hk
      refine ⟨⟨o, e, ex.1⟩, fun a e2 => ?_⟩
      cases e2
      exact ⟨o, e, ex.2.1⟩
  | _ => exact False.elim ty
def tBM (K : PySem.W.Frag) (T : String) (r : V → List V → Hp → VK → Prop) (to : TE) (t : TA) : TE := fun σ H Q => to σ H fun x H1 => tyV K T x H1 ∧ t σ H1 fun xs H2 => r x xs H2 Q
variable {o e : Expr} {es : List Expr} {to : TE} {t : TA} {name : Str} {apos cpos : Pos} {T id : String} {r : V → List V → Hp → VK → Prop}
theorem pe_bm (pa : PlainAttrs T) (slot : Slot T name id) (hty : typeOf (.builtin id) = pure (.type "method_descriptor")) (hm : MtR X id r) (ho : PE X o to) (ha : PA X (e :: es) t)
    (hbase : attributeBase o name X.env (eval o X.env) = eval o X.env := by rfl)
    (hfew : ((backTo cpos (starEach (e :: es) X.env)).all (fun x => !x.1) && (backToKw cpos (keywordEach [] X.env)).all (fun x => x.1.isSome)
      && decide ((e :: es).length + ([] : List Keyword).length + (if ([] : List Keyword).isEmpty then 0 else 1) < 30)) = true := by rfl)
    (hline : (apos.endLine == cpos.line) = true := by rfl) (hs : starEach (e :: es) X.env = (false, eval e X.env) :: starEach es X.env := by rfl) (hplain : (backTo cpos (starEach es X.env)).any (·.1) = false := by rfl) :
    PE X (.Call (.Attribute o name apos) (e :: es) [] cpos) (tBM X.K T r to t) := by
  intro pins s σ H Q I h
  refine wpAny_Call_method_late hbase hfew hline rfl (thn (ho pins s σ H _ I h) fun v s1 ⟨x, H1, I1, r1, ty, q1⟩ => ?_)
  obtain ⟨h1, h2⟩ := tyV_is I1 r1 ty
  refine ⟨T, id, pa, slot, hty, h1, h2, ?_⟩
  have hA := ha cpos pins s1 σ H1 _ I1 q1
  rw [hs] at hA ⊢
  refine Calls.callWith_builtin (by show (false || (backTo cpos (starEach es X.env)).any (·.1)) = false; rw [hplain] <;> rfl) (Calls.evalArgs_plain ?_)
  exact thn hA fun us s2 ⟨vs, H2, I2, r2, q2⟩ => hm pins s2 σ H2 x vs v us Q I2 r1 r2 q2
/- xs.append(e), list.index on a module's tuple .. are MtR facts of 06m -/
end
end L2

namespace L2
open PySem PySem.Spec PyProof.Rows

def MtM (X : Cx) (id : String) (r : V → List V → Hp → VK → Prop) : Prop :=
  ∀ (pins : List (Addr × Obj)) (s : Shared) (σ : St) (H : Hp) (x : V) (xs : List V) (v : Value) (us : List Value) (Q : VK), Inv X pins σ H s → RelV x v → Vals xs us → r x xs H Q →
    wpAny (model X.prog X.w) X.A (call (.builtin id) (v :: us)) (EP X pins σ Q) X.xe s

/-! ### lists of values -/
theorem Vals.one : ∀ {x : V} {us : List Value}, Vals [x] us → ∃ u, us = [u] ∧ RelV x u
  | _, _, .cons r .nil => ⟨_, rfl, r⟩
theorem Vals.eraseIdx : ∀ {xs : List V} {us : List Value} (i : Nat), Vals xs us → Vals (xs.eraseIdx i) (us.eraseIdx i)
  | _, _, _, .nil => .nil
  | _, _, 0, .cons _ t => t
  | _, _, i + 1, .cons r t => .cons r (Vals.eraseIdx i t)
theorem Vals.reverse {xs : List V} {us : List Value} (h : Vals xs us) : Vals xs.reverse us.reverse := by
  induction h with
  | nil => exact .nil
  | cons r t ih => rw [List.reverse_cons, List.reverse_cons]; exact Vals.append ih (.cons r .nil)
theorem Vals.rep {xs : List V} {us : List Value} (h : Vals xs us) : ∀ k : Nat, Vals (List.replicate k xs).flatten (List.replicate k us).flatten
  | 0 => .nil
  | k + 1 => by
    rw [List.replicate_succ, List.replicate_succ, List.flatten_cons, List.flatten_cons]
    exact Vals.append h (Vals.rep h k)
theorem foldl_rep (its : List Value) : ∀ (k : Nat) (acc : List Value),
    List.foldl (fun x1 x2 => x1 ++ x2) acc.toArray (List.replicate k its.toArray) = (acc ++ (List.replicate k its).flatten).toArray
  | 0, acc => by simp
  | k + 1, acc => by
    have e : acc.toArray ++ its.toArray = (acc ++ its).toArray := by simp
    have e2 : (acc ++ its) ++ (List.replicate k its).flatten = acc ++ (List.replicate (k + 1) its).flatten := by
      rw [List.replicate_succ, List.flatten_cons, List.append_assoc]
    rw [← e2, ← foldl_rep its k (acc ++ its), ← e, List.replicate_succ, List.foldl_cons]

section
variable {X : Cx} {pins : List (Addr × Obj)} {σ : St} {H : Hp} {s : Shared} {l b : Addr} {xs ys zs : List V}

/-! ### the two steps: a tracked list is rewritten, a new list is laid -/
theorem Inv.lset {its its' : List Value} {n : Nat} {f : Array Value → Array Value} {t' : Nat} (I : Inv X pins σ H s) (hH : H l = some (.lst xs))
    (e : s.heap.get? l = some { cls := .type "list", data := .seq its.toArray n }) (hf : f its.toArray = its'.toArray) (hv : Vals ys its') (hz : ys.length ≤ sizeLine) :
    Inv X pins σ (upd H l (.lst ys)) { s with heap := s.heap.update l (Obj.mapSeq f), toks := t' } := by
  have q := PySem.IsL.update e f
  rw [hf] at q
  refine I.write (x := l) (e := l) (by rw [hH]; exact trivial) (.inl rfl) (fun b' u hb hu => (Heap.get?_update_other s.heap (Obj.mapSeq f) (Ne.symm hb)).trans hu) ⟨_, q⟩ ?_
  exact ⟨hz, its', _, hv, q⟩
theorem Inv.lnew {its : List Value} {t' : Nat} (I : Inv X pins σ H s) (hv : Vals ys its) (hz : ys.length ≤ sizeLine) :
    Inv X pins σ (upd H s.heap.objs.size (.lst ys)) { s with heap := s.heap.push { cls := .type "list", data := .seq its.toArray }, toks := t' } :=
  I.laid (fun _ _ q => Heap.get?_push_of_some _ q) (Nat.le_refl _) ⟨hz, its, 0, hv, Heap.get?_push_size _ rfl⟩
theorem Inv.fresh (I : Inv X pins σ H s) : H s.heap.objs.size = none := I.hok.fresh (Nat.le_refl _)
theorem Inv.lstM (I : Inv X pins σ H s) (hH : H l = some (.lst xs)) : xs.length ≤ sizeLine ∧ ∃ (its : List Value) (n : Nat), Vals xs its ∧ xs.length = its.length ∧ s.heap.get? l = some { cls := .type "list", data := .seq its.toArray n } := by
  obtain ⟨z, its, n, r, e⟩ := I.hok l _ hH
  exact ⟨z, its, n, r, r.length, e⟩

theorem notLongL {n : Nat} (h : n ≤ sizeLine) : Builtin.List.listTooLong n = false := by
  unfold Builtin.List.listTooLong
  exact decide_eq_false (by omega)
end

section
variable {X : Cx}

/-! ### methods -/
def rAppend : V → List V → Hp → VK → Prop := fun x vs H Q => ∃ l xs y, x = .ref l ∧ vs = [y] ∧ H l = some (.lst xs) ∧ xs.length < sizeLine ∧ Q .non (upd H l (.lst (xs ++ [y])))
theorem mt_append : MtM X "list.append" rAppend := by
  intro pins s σ H x vs v us Q I rx rv h
  obtain ⟨l, xs, y, rfl, rfl, hH, hz, q⟩ := h
  cases rx
  obtain ⟨u, rfl, ru⟩ := rv.one
  obtain ⟨z, its, n, r, hl, e⟩ := I.lstM hH
  refine call_meets F.slot_list_append ⟨_, e, rfl⟩ F.entry_list_append (F.args_list_append_2 _ _) (PySem.list_append l its.toArray n u (by rw [List.size_toArray]; omega)) ⟨e, ?_⟩
  refine ⟨.non, _, I.lset (its' := its ++ [u]) hH e (by simp) (r.append (.cons ru .nil)) ?_, rfl, q⟩
  rw [List.length_append, List.length_singleton]
  omega

/-! ### list + list, list += list, list * int -/
/-- a list times an int (a negative one is nothing) -/
def rRep : R2 := fun x y H Q => ∃ l k xs, x = .ref l ∧ y = .int k ∧ H l = some (.lst xs) ∧ -(2 ^ 63) ≤ k ∧ k < 2 ^ 63 ∧ xs.length * k.toNat ≤ sizeLine ∧
  ∀ p, H p = none → Q (.ref p) (upd H p (.lst (List.replicate k.toNat xs).flatten))
theorem len_rep {α : Type} (xs : List α) (k : Nat) : (List.replicate k xs).flatten.length = k * xs.length := by
  induction k with
  | zero => simp
  | succ k ih => rw [List.replicate_succ, List.flatten_cons, List.length_append, ih, Nat.succ_mul, Nat.add_comm]
theorem op_rep : OpR X (binaryOp .Mult) rRep := by
  intro pins s σ H x y v u Q I rx ry h
  obtain ⟨l, k, xs, rfl, rfl, hH, h1, h2, hz, q⟩ := h
  cases rx
  obtain ⟨t, rfl⟩ := ry
  obtain ⟨z, its, n, r, hl, e⟩ := I.lstM hH
  have hlen : its.toArray.size * k.toNat ≤ sizeLine := by rw [List.size_toArray, ← hl]; exact hz
  have hcap : ¬ its.toArray.size * k.toNat > (2 ^ 63 - 1) / 8 := by
    have : (sizeLine : Nat) ≤ (2 ^ 63 - 1) / 8 := by decide
    omega
  have hfit : ¬ (!Builtin.List.listFitsIndex k) = true := by
    rw [fitsIndex_both h1 h2]
    exact Bool.false_ne_true
  have hlong : ¬ Builtin.List.listTooLong (its.toArray.size * k.toNat) = true := by
    rw [notLongL hlen]
    exact Bool.false_ne_true
  have hnew : List.foldl (fun x1 x2 => x1 ++ x2) #[] (List.replicate (if its.toArray.isEmpty = true then 0 else k.toNat) its.toArray) = (List.replicate k.toNat its).flatten.toArray := by
    have f0 : ∀ m : Nat, List.foldl (fun x1 x2 => x1 ++ x2) #[] (List.replicate m its.toArray) = (List.replicate m its).flatten.toArray := fun m => by
      have := foldl_rep its m []
      rw [List.nil_append] at this
      exact this
    rw [f0]
    cases its with
    | nil => simp
    | cons a r' => rw [if_neg (by simp)]
  refine wpAny_binaryOp_repeat_ref (T := "list") (U := "int") (by decide) ⟨_, e, rfl⟩ (fun s' => typeIs_int s' k t) noFill_list_mul F.fills_int_mul F.slot_int_rmul repeat_list F.slot_int_index.lookup
    (call_meets F.slot_int_rmul (typeIs_int s k t) F.entry_int_rmul (F.args_int_rmul_2 _ _) (int___rmul___int_list k t l its.toArray n)
      ⟨e, rfl, ⟨_, e, rfl⟩, call_meets F.slot_list_mul ⟨_, e, rfl⟩ F.entry_list_mul (F.args_list_mul_2 _ _) (AutoListH.list___mul___list_int_3 l its.toArray n k t hfit hcap hlong) ⟨e, ?_⟩⟩)
  rw [hnew]
  exact ⟨.ref _, _, I.lnew (t' := s.toks) (r.rep k.toNat) (by rw [len_rep, Nat.mul_comm]; exact hz), rfl, q _ I.fresh⟩

/-! ### del xs[i] -/
end

/-! ### xs[a:b] = ys -/
section
variable {prog : Program} {w : World} {A : Around} {E : Value → Shared → Prop} {s : Shared}
end

section
variable {X : Cx}
end
end L2

namespace L2
open PySem PySem.Spec PyProof.Rows

/-! ### lists of pairs as tables -/
section
variable {κ : Type} [DecidableEq κ]
def valV (kvs : List (κ × V)) (k : κ) : Option V := (kvs.find? fun kv => decide (kv.1 = k)).map (·.2)
/-- in its place, or at the end -/
def putK (kvs : List (κ × V)) (k : κ) (v : V) : List (κ × V) :=
  if (kvs.any fun kv => decide (kv.1 = k)) = true then kvs.map (fun kv => if kv.1 = k then (kv.1, v) else kv) else kvs ++ [(k, v)]
def dropK (kvs : List (κ × V)) (k : κ) : List (κ × V) := kvs.filter fun kv => decide (kv.1 ≠ k)

theorem valV_pos {p : κ × V} {r : List (κ × V)} {k : κ} (e : p.1 = k) : valV (p :: r) k = some p.2 := by simp [valV, List.find?_cons, e]
theorem valV_neg {p : κ × V} {r : List (κ × V)} {k : κ} (e : ¬ p.1 = k) : valV (p :: r) k = valV r k := by simp [valV, List.find?_cons, e]
theorem valV_any (k : κ) : ∀ kvs : List (κ × V), (kvs.any fun kv => decide (kv.1 = k)) = (valV kvs k).isSome
  | [] => rfl
  | p :: r => by
    rw [List.any_cons]
    by_cases e : p.1 = k
    · simp only [valV_pos e, decide_eq_true e, Bool.true_or, Option.isSome_some]
    · rw [valV_neg e, decide_eq_false e, Bool.false_or]; exact valV_any k r
theorem length_putK (kvs : List (κ × V)) (k : κ) (v : V) : (putK kvs k v).length ≤ kvs.length + 1 := by
  unfold putK
  split
  · rw [List.length_map]; omega
  · rw [List.length_append, List.length_cons, List.length_nil]; omega
theorem putK_new {kvs : List (κ × V)} {k : κ} (v : V) (h : valV kvs k = none) : putK kvs k v = kvs ++ [(k, v)] := by
  unfold putK
  rw [valV_any, h]
  exact if_neg (by decide)

theorem RelO.isSome_eq {o : Option V} {u : Option Value} (r : RelO o u) : o.isSome = u.isSome := by
  cases o with
  | none => cases u with
    | none => rfl
    | some _ => exact (show False from r).elim
  | some _ => cases u with
    | none => exact (show False from r).elim
    | some _ => rfl
theorem RelO.getD {o : Option V} {u : Option Value} {d : V} {d' : Value} (r : RelO o u) (rd : RelV d d') : RelV (o.getD d) (u.getD d') := by
  cases o with
  | none => cases u with
    | none => exact rd
    | some _ => exact (show False from r).elim
  | some _ => cases u with
    | none => exact (show False from r).elim
    | some _ => exact r

/-- raw tables of the same keys -/
theorem KV.val {kvs : List (κ × V)} {vs : List (κ × Value)} (r : KV kvs vs) (k : κ) : RelO (valV kvs k) (valueAt vs k) := by
  unfold KV at r
  induction r with
  | nil => exact True.intro
  | @cons p q ps qs h t ih =>
    obtain ⟨h1, h2⟩ := h
    by_cases e : p.1 = k
    · have e' : q.1 = k := h1.symm.trans e
      have b : valueAt (q :: qs) k = some q.2 := by simp [valueAt, List.find?_cons, e']
      rw [valV_pos e, b]; exact h2
    · have e' : ¬ q.1 = k := fun z => e (h1.trans z)
      have b : valueAt (q :: qs) k = valueAt qs k := by simp [valueAt, List.find?_cons, e']
      rw [valV_neg e, b]; exact ih
theorem KV.any {kvs : List (κ × V)} {vs : List (κ × Value)} (r : KV kvs vs) (k : κ) : (kvs.any fun kv => decide (kv.1 = k)) = vs.any fun kv => decide (kv.1 = k) := by
  unfold KV at r
  induction r with
  | nil => rfl
  | cons h t ih => rw [List.any_cons, List.any_cons, ih, h.1]
theorem KV.repl {kvs : List (κ × V)} {vs : List (κ × Value)} (r : KV kvs vs) (k : κ) {y : V} {u : Value} (ry : RelV y u) :
    KV (kvs.map fun kv => if kv.1 = k then (kv.1, y) else kv) (vs.map fun kv => if kv.1 = k then (kv.1, u) else kv) := by
  unfold KV at r ⊢
  induction r with
  | nil => exact .nil
  | @cons p q ps qs h t ih =>
    rw [List.map_cons, List.map_cons]
    refine .cons ?_ ih
    obtain ⟨h1, h2⟩ := h
    by_cases e : p.1 = k
    · rw [if_pos e, if_pos (h1.symm.trans e)]; exact ⟨h1, ry⟩
    · rw [if_neg e, if_neg (fun z => e (h1.trans z))]; exact ⟨h1, h2⟩
theorem KV.put {kvs : List (κ × V)} {vs : List (κ × Value)} (r : KV kvs vs) (k : κ) {y : V} {u : Value} (ry : RelV y u) : KV (putK kvs k y) (stored vs k u) := by
  unfold putK stored
  rw [r.any k]
  by_cases e : (vs.any fun kv => decide (kv.1 = k)) = true
  · rw [if_pos e, if_pos e]; exact r.repl k ry
  · rw [if_neg e, if_neg e]; exact Paired.snoc r ⟨rfl, ry⟩
theorem KV.drop {kvs : List (κ × V)} {vs : List (κ × Value)} (r : KV kvs vs) (k : κ) : KV (dropK kvs k) (without vs k) := by
  unfold KV at r ⊢
  unfold dropK without
  induction r with
  | nil => exact .nil
  | @cons p q ps qs h t ih =>
    obtain ⟨h1, h2⟩ := h
    rw [List.filter_cons, List.filter_cons]
    by_cases e : p.1 = k
    · have a : ¬ decide (p.1 ≠ k) = true := by simp [e]
      have b : ¬ decide (q.1 ≠ k) = true := by simp [h1.symm.trans e]
      rw [if_neg a, if_neg b]; exact ih
    · have e' : ¬ q.1 = k := fun z => e (h1.trans z)
      have a : decide (p.1 ≠ k) = true := by simp [e]
      have b : decide (q.1 ≠ k) = true := by simp [e']
      rw [if_pos a, if_pos b]; exact .cons ⟨h1, h2⟩ ih
theorem KV.keys {kvs : List (κ × V)} {vs : List (κ × Value)} (r : KV kvs vs) : kvs.map (·.1) = vs.map (·.1) := by
  unfold KV at r
  induction r with
  | nil => rfl
  | cons h t ih => rw [List.map_cons, List.map_cons, ih, h.1]
theorem KV.length {kvs : List (κ × V)} {vs : List (κ × Value)} (r : KV kvs vs) : kvs.length = vs.length := Paired.length r
end


/-! ### a tracked dict, its keys ints and texts or tuples of these -/
theorem kV_is {P : Program} {w : World} {k : Key} {u : Value} (r : RelV (kV k) u) : (mixKind P w).is k u = true := by
  cases k with
  | inl i => obtain ⟨t, e⟩ := (show ∃ t, u = Value.int i t from r); subst e; exact mixKind_int P w i t
  | inr x => obtain ⟨t, e⟩ := (show ∃ t, u = Value.str x t from r); subst e; exact mixKind_str P w x t
theorem items_are {P : Program} {w : World} : ∀ {ks : List Key} {us : List Value}, Vals (ks.map kV) us → ItemsAre (mixKind P w) ks us
  | [], _, r => by rw [List.map_nil] at r; cases r; exact .nil
  | k :: ks, _, r => by
    rw [List.map_cons] at r
    cases r with
    | cons h t => exact .cons (kV_is h) (items_are t)

/-- raw entries of a dict with tuple keys -/
abbrev KT (H : Hp) : List (List Key × V) → List (List Key × Addr × Value) → Prop := Paired fun p q => p.1 = q.1 ∧ H q.2.1 = some (.tup (p.1.map kV)) ∧ RelV p.2 q.2.2
theorem KT.val {H : Hp} {kvs : List (List Key × V)} {xs : List (List Key × Addr × Value)} (r : KT H kvs xs) (k : List Key) : RelO (valV kvs k) ((atKey xs k).map (·.2)) := by
  induction r with
  | nil => exact True.intro
  | @cons p q ps qs h t ih =>
    obtain ⟨h1, _, h2⟩ := h
    by_cases e : p.1 = k
    · have e' : q.1 = k := h1.symm.trans e
      have b : atKey (q :: qs) k = some q.2 := by simp [atKey, List.find?_cons, e']
      rw [valV_pos e, b]; exact h2
    · have e' : ¬ q.1 = k := fun z => e (h1.trans z)
      have b : atKey (q :: qs) k = atKey qs k := by simp [atKey, List.find?_cons, e']
      rw [valV_neg e, b]; exact ih
theorem KT.repl {H : Hp} {kvs : List (List Key × V)} {xs : List (List Key × Addr × Value)} (r : KT H kvs xs) (k : List Key) {y : V} {u : Value} (ry : RelV y u) :
    KT H (kvs.map fun kv => if kv.1 = k then (kv.1, y) else kv) (xs.map (putAt k u)) := by
  induction r with
  | nil => exact .nil
  | @cons p q ps qs h t ih =>
    rw [List.map_cons, List.map_cons]
    refine .cons ?_ ih
    obtain ⟨h1, h2, h3⟩ := h
    unfold putAt
    by_cases e : p.1 = k
    · rw [if_pos e, if_pos (h1.symm.trans e)]; exact ⟨h1, h2, ry⟩
    · rw [if_neg e, if_neg (fun z => e (h1.trans z))]; exact ⟨h1, h2, h3⟩
theorem KT.put {H : Hp} {kvs : List (List Key × V)} {xs : List (List Key × Addr × Value)} (r : KT H kvs xs) (k : List Key) {b : Addr} {y : V} {u : Value} (hb : H b = some (.tup (k.map kV))) (ry : RelV y u) :
    KT H (putK kvs k y) (storedH xs k b u) := by
  have e : (kvs.any fun kv => decide (kv.1 = k)) = (atKey xs k).isSome := by
    rw [valV_any, (r.val k).isSome_eq, Option.isSome_map]
  unfold putK storedH
  rw [e]
  by_cases q : (atKey xs k).isSome = true
  · rw [if_pos q, if_pos q]; exact r.repl k ry
  · rw [if_neg q, if_neg q]; exact Paired.snoc r ⟨rfl, hb, ry⟩
theorem KT.keeps {H H' : Hp} {kvs : List (List Key × V)} {xs : List (List Key × Addr × Value)} (r : KT H kvs xs) (ht : ∀ b ys, H b = some (.tup ys) → H' b = some (.tup ys)) : KT H' kvs xs :=
  Paired.mapP r fun _ _ z => ⟨z.1, ht _ _ z.2.1, z.2.2⟩

section
variable {P : Program} {w : World} {H : Hp} {h : Heap} {a : Addr}
theorem rd_of {u : HO} (ok : HOk P w H h) (e : Rd H a u) : ObjOk P w H h a u := e.ok ok
theorem dk_rd {kvs : List (Key × V)} (ok : HOk P w H h) (e : Rd H a (.dK kvs)) : kvs.length ≤ sizeLine ∧ (a == sysModules) = false ∧ ∃ vs, KV kvs vs ∧ h.DictOf (mixKind P w) a vs :=
  show ObjOk P w H h a (.dK kvs) from rd_of ok e
theorem dk_of {kvs : List (Key × V)} (ok : HOk P w H h) (e : H a = some (.dK kvs)) : kvs.length ≤ sizeLine ∧ (a == sysModules) = false ∧ ∃ vs, KV kvs vs ∧ h.DictOf (mixKind P w) a vs := dk_rd ok (.inl e)
/-- a tracked tuple of ints and texts is a key -/
theorem key_of {ks : List Key} (ok : HOk P w H h) (e : H a = some (.tup (ks.map kV))) : (tupleKind (mixKind P w)).is h ks a := by
  obtain ⟨_, its, r, o, h1, h2, n, h3⟩ := (show ObjOk P w H h a (.tup (ks.map kV)) from ok a _ e)
  exact ⟨o, its.toArray, n, h1, h2, h3, by simpa using items_are r⟩
theorem dt_rd {kvs : List (List Key × V)} (ok : HOk P w H h) (e : Rd H a (.dT kvs)) : kvs.length ≤ sizeLine ∧ (a == sysModules) = false ∧
    ∃ xs, KT H kvs xs ∧ h.DictOfH (tupleKind (mixKind P w)) a xs := by
  obtain ⟨z, y, xs, r, o, es, ep, h1, h2, h3, h4, h5⟩ := (show ObjOk P w H h a (.dT kvs) from rd_of ok e)
  refine ⟨z, y, xs, r, o, es, ep, h1, h2, h3, h4, fun x hx => ?_, h5⟩
  have all : ∀ {l : List (List Key × V)} {m : List (List Key × Addr × Value)}, KT H l m → ∀ x ∈ m, (tupleKind (mixKind P w)).is h x.1 x.2.1 := by
    intro l m q
    induction q with
    | nil => intro x hx; exact nomatch hx
    | @cons p q ps qs hq t ih =>
      intro x hx
      rcases List.mem_cons.mp hx with e | hx
      · subst e
        exact key_of ok (by rw [← hq.1]; exact hq.2.1)
      · exact ih x hx
  exact all r x hx
theorem dt_of {kvs : List (List Key × V)} (ok : HOk P w H h) (e : H a = some (.dT kvs)) : kvs.length ≤ sizeLine ∧ (a == sysModules) = false ∧
    ∃ xs, KT H kvs xs ∧ h.DictOfH (tupleKind (mixKind P w)) a xs := dt_rd ok (.inl e)
end

/-- what the dict at a holds at the key y -/
def DGet (H : Hp) (a : Addr) (y : V) (r : Option V) : Prop :=
  (∃ kvs k, Rd H a (.dK kvs) ∧ y = kV k ∧ r = valV kvs k) ∨ ∃ kvs k b, Rd H a (.dT kvs) ∧ y = .ref b ∧ H b = some (.tup (k.map kV)) ∧ r = valV kvs k
/-- the heap behind a[y] = v -/
def DPut (H : Hp) (a : Addr) (y v : V) (H' : Hp) : Prop :=
  (∃ kvs k, H a = some (.dK kvs) ∧ y = kV k ∧ kvs.length < sizeLine ∧ H' = upd H a (.dK (putK kvs k v))) ∨
  ∃ kvs k b, H a = some (.dT kvs) ∧ y = .ref b ∧ H b = some (.tup (k.map kV)) ∧ kvs.length < sizeLine ∧ H' = upd H a (.dT (putK kvs k v))
theorem DGet.k {H : Hp} {a : Addr} {kvs : List (Key × V)} {k : Key} (e : H a = some (.dK kvs)) : DGet H a (kV k) (valV kvs k) := .inl ⟨kvs, k, .inl e, rfl, rfl⟩
theorem DGet.t {H : Hp} {a b : Addr} {kvs : List (List Key × V)} {k : List Key} (e : H a = some (.dT kvs)) (eb : H b = some (.tup (k.map kV))) : DGet H a (.ref b) (valV kvs k) := .inr ⟨kvs, k, b, .inl e, rfl, eb, rfl⟩
theorem DPut.k {H : Hp} {a : Addr} {kvs : List (Key × V)} {k : Key} {v : V} (e : H a = some (.dK kvs)) (hl : kvs.length < sizeLine) : DPut H a (kV k) v (upd H a (.dK (putK kvs k v))) := .inl ⟨kvs, k, e, rfl, hl, rfl⟩
theorem DPut.t {H : Hp} {a b : Addr} {kvs : List (List Key × V)} {k : List Key} {v : V} (e : H a = some (.dT kvs)) (eb : H b = some (.tup (k.map kV))) (hl : kvs.length < sizeLine) :
    DPut H a (.ref b) v (upd H a (.dT (putK kvs k v))) := .inr ⟨kvs, k, b, e, rfl, eb, hl, rfl⟩


section
variable {X : Cx} {pins : List (Addr × Obj)} {σ : St} {H : Hp} {s : Shared} {a : Addr} {y v : V} {u r : Value} {o : Option V} {A : Around} {E : Value → Shared → Prop}

theorem Inv.big (I : Inv X pins σ H s) : sysModules < s.heap.objs.size := by
  have h : mainGlobals < s.heap.objs.size := (I.mod.glob.keeps I.bk).lt
  exact Nat.lt_trans (by decide) h

/-- d[y], there -/
theorem d_getItem {Q : Value → Shared → Prop} (hu : A.units + 1 < cLine) (I : Inv X pins σ H s) (g : DGet H a y (some v)) (ry : RelV y u) (h : ∀ w' s', Inv X pins σ H s' → RelV v w' → Q w' s') :
    wpAny (model X.prog X.w) A (getItem (.ref a) u) Q E s := by
  rcases g with ⟨kvs, k, e, ey, l⟩ | ⟨kvs, k, b, e, ey, eb, l⟩
  · subst ey
    obtain ⟨z, hd, vs, rel, dd⟩ := dk_rd I.hok e
    obtain ⟨w', hw, rw'⟩ := RelO.some_of (v := v) (o := valueAt vs k) (by rw [l]; exact rel.val k)
    exact wpAny_getItem_of (kV_is ry) dd.mapOf hw (h w' _ (I.tok _) rw')
  · subst ey
    cases (show u = Value.ref b from ry)
    obtain ⟨z, hd, xs, rel, dd⟩ := dt_rd I.hok e
    obtain ⟨w', hw, rw'⟩ := RelO.some_of (v := v) (o := (atKey xs k).map (·.2)) (by rw [l]; exact rel.val k)
    obtain ⟨p, hp, hp2⟩ := Option.map_eq_some_iff.mp hw
    refine wpAny_getItem_heap (tupleKind_room_in1 hu) (key_of I.hok eb) dd hp ?_
    rw [hp2]
    exact h w' _ (I.tok _) rw'
theorem d_notIn {Q : Value → Shared → Prop} (hu : A.units + 1 < cLine) (I : Inv X pins σ H s) (g : DGet H a y o) (ry : RelV y u) (h : ∀ s', Inv X pins σ H s' → Q (.bool (!o.isSome)) s') :
    wpAny (model X.prog X.w) A (compareOp .NotIn u (.ref a)) Q E s := by
  rcases g with ⟨kvs, k, e, ey, l⟩ | ⟨kvs, k, b, e, ey, eb, l⟩
  · subst ey
    obtain ⟨z, hd, vs, rel, dd⟩ := dk_rd I.hok e
    refine wpAny_notIn_of (kV_is ry) hd dd.mapOf ?_
    rw [← (rel.val k).isSome_eq, ← l]
    exact h _ (I.tok _)
  · subst ey
    cases (show u = Value.ref b from ry)
    obtain ⟨z, hd, xs, rel, dd⟩ := dt_rd I.hok e
    refine wpAny_notIn_heap (tupleKind_room_in1 hu) (key_of I.hok eb) hd dd ?_
    have q := (rel.val k).isSome_eq
    rw [Option.isSome_map] at q
    rw [← q, ← l]
    exact h _ (I.tok _)
/-- a dict's object is replaced -/
theorem d_write {h' : Heap} {t' : Nat} {ob : HO} (I : Inv X pins σ H s) (mu : Mut (H a)) (hs : Heap.SameBut a s.heap h') (he : ∃ q, h'.get? a = some q) (new : ObjOk X.prog X.w (upd H a ob) h' a ob) :
    Inv X pins σ (upd H a ob) { s with heap := h', toks := t' } :=
  I.write (x := a) (e := a) mu (.inl rfl) (fun b q hb z => (hs.2 b hb).trans z) he new
theorem dk_new {P : Program} {w : World} {H' : Hp} {h' : Heap} {kvs : List (Key × V)} {vs : List (Key × Value)} (z : kvs.length ≤ sizeLine) (hd : (a == sysModules) = false) (rel : KV kvs vs) (dd : h'.DictOf (mixKind P w) a vs) :
    ObjOk P w H' h' a (.dK kvs) := ⟨z, hd, vs, rel, dd⟩
/-- d[y] = v -/
theorem d_setItem {H' : Hp} {Q : Unit → Shared → Prop} (hu : A.units + 1 < cLine) (I : Inv X pins σ H s) (g : DPut H a y v H') (ry : RelV y u) (rv : RelV v r) (h : ∀ s', Inv X pins σ H' s' → Q () s') :
    wpAny (model X.prog X.w) A (setItem (.ref a) u r) Q E s := by
  rcases g with ⟨kvs, k, e, ey, l, eH⟩ | ⟨kvs, k, b, e, ey, eb, l, eH⟩
  · subst ey eH
    obtain ⟨z, hd, vs, rel, dd⟩ := dk_of I.hok e
    have hz : vs.length ≤ sizeLine := by rw [← rel.length]; exact z
    have hl : (putK kvs k v).length ≤ sizeLine := by have := length_putK kvs k v; omega
    refine wpAny_setItem_pairs (hsz := hz) (kV_is ry) dd fun h' dd' hs => h _ ?_
    have he : ∃ q, h'.get? a = some q := let ⟨q, _, _, hq, _⟩ := dd'; ⟨q, hq⟩
    exact d_write I (by rw [e]; exact True.intro) hs he (dk_new hl hd (rel.put k rv) dd')
  · subst ey eH
    cases (show u = Value.ref b from ry)
    obtain ⟨z, hd, xs, rel, dd⟩ := dt_of I.hok e
    have hz : xs.length ≤ sizeLine := by rw [← Paired.length rel]; exact z
    have hl : (putK kvs k v).length ≤ sizeLine := by have := length_putK kvs k v; omega
    refine wpAny_setItem_heap (hsz := hz) (tupleKind_room_in1 hu) (key_of I.hok eb) dd fun h' dd' hs => h _ ?_
    obtain ⟨q, es, ep, hq, h2, h3, h4, _, h5⟩ := dd'
    refine d_write I (by rw [e]; exact True.intro) hs ⟨q, hq⟩ ⟨hl, hd, _, (rel.put k eb rv).keeps fun c ys ec => ?_, q, es, ep, hq, h2, h3, h4, h5⟩
    rw [upd_ne (ne_of ec e (fun z => nomatch z))]
    exact ec
end

section
variable {X : Cx} {pins : List (Addr × Obj)} {σ : St} {H : Hp} {s : Shared} {a : Addr} {kvs : List (Key × V)} {k : Key} {u : Value} {A : Around} {E : Value → Shared → Prop}
/-- len(d) -/
theorem d_len {Q : Value → Shared → Prop} (I : Inv X pins σ H s) (e : Rd H a (.dK kvs)) (h : ∀ t s', Inv X pins σ H s' → Q (.int kvs.length t) s') : wpAny (model X.prog X.w) A (call (.builtin "len") [.ref a]) Q E s := by
  obtain ⟨z, hd, vs, rel, dd⟩ := dk_rd I.hok e
  refine call_len_dict hd dd (by rw [← rel.length]; rw [sizeLine_eq] at z; omega) ?_
  rw [← rel.length]
  exact h _ _ (I.tok _)
end


/-! ### readings and rules -/
/-- the element of a subscription, not a slice -/
def NoSl (i : Expr) : Prop := ∀ ov iv, subscripted i false ov iv = operate [ov, iv] (getItem ov iv)
theorem subD_of {prog : Program} {w : World} {A : Around} {E : Value → Shared → Prop} {s : Shared} {env : Env} {value slice : Expr} {pos : Pos} {T id : String} {Q : Value → Shared → Prop}
    (hl : typeLookup (.type T) "__getitem__" = pure (some (.builtin id))) (hs : NoSl slice)
    (h : wpAny (model prog w) A (eval value env) (fun o s₁ => wpAny (model prog w) A (eval slice env) (fun i s₂ => s₂.TypeIs o T ∧ wpAny (model prog w) A (getItem o i) Q E s₂) E s₁) E s) :
    wpAny (model prog w) A (eval (.Subscript value slice pos) env) Q E s := by
  refine Subscript_ (wpAny_mono h (fun o s₁ h₁ => wpAny_mono h₁ (fun i s₂ h₂ => ?_) fun _ _ x => x) fun _ _ x => x)
  obtain ⟨hT, h₂⟩ := h₂
  unfold subscriptTail
  refine wpAny_bind ?_
  rw [getitemInPython_of_ne hT.not_modules]
  refine wpAny_bind (wpAny_specialOf hT hl ?_)
  have fin : wpAny (model prog w) A (subscripted slice false o i) (fun r s₃ => wpAny (model prog w) A (letTemporaryGo value o r >>= fun _ => pure r) Q E s₃) E s₂ := by
    rw [hs o i]
    exact wpAny_operating (wpAny_mono h₂ (fun r s₃ h₃ => wpAny_bind (wpAny_letTemporaryGo (wpAny_pure h₃))) fun _ _ x => x)
  first
    | exact wpAny_pure (wpAny_bind fin)
    | exact wpAny_bind (wpAny_pure (wpAny_bind fin))
    | exact wpAny_bind fin

theorem dict_typeIs {X : Cx} {pins : List (Addr × Obj)} {σ : St} {H : Hp} {s : Shared} {a : Addr} {y : V} {o : Option V} (I : Inv X pins σ H s) (g : DGet H a y o) : s.TypeIs (.ref a) "dict" := by
  rcases g with ⟨kvs, k, e, _, _⟩ | ⟨kvs, k, b, e, _, _, _⟩
  · obtain ⟨_, _, vs, _, dd⟩ := dk_rd I.hok e
    exact dd.typeIs
  · obtain ⟨_, _, xs, _, dd⟩ := dt_rd I.hok e
    exact dd.typeIs
/-- d[y] -/
def tDGet (td ty : TE) : TE := fun σ H Q => td σ H fun x H1 => ty σ H1 fun y H2 => ∃ a v, x = .ref a ∧ DGet H2 a y (some v) ∧ Q v H2
def tDNotIn (ty td : TE) : TE := fun σ H Q => ty σ H fun y H1 => td σ H1 fun x H2 => ∃ a o, x = .ref a ∧ DGet H2 a y o ∧ Q (.bl (!o.isSome)) H2
/-- d[y] = v -/
def sDPut (td ty tv : TE) : TS := fun D σ H => tv σ H fun v H1 => td σ H1 fun x H2 => ty σ H2 fun y H3 => ∃ a H4, x = .ref a ∧ DPut H3 a y v H4 ∧ D.nx σ H4
section
variable {X : Cx} {o i e value : Expr} {pos pos' tpos : Pos} {td ty tv : TE}
theorem pe_dget (hu : X.A.units + 1 < cLine) (ho : PE X o td) (hi : PE X i ty) (hs : NoSl i) : PE X (.Subscript o i pos) (tDGet td ty) := by
  intro pins s σ H Q I h
  refine subD_of PySem.F.slot_dict_getitem.lookup hs (thn (ho pins s σ H _ I h) fun u s1 ⟨x, H1, I1, rx, q1⟩ => thn (hi pins s1 σ H1 _ I1 q1) fun iv s2 ⟨y, H2, I2, ry, a, v, ex, g, q2⟩ => ?_)
  subst ex
  obtain rfl : u = Value.ref a := rx
  exact ⟨dict_typeIs I2 g, d_getItem hu I2 g ry fun w' s3 I3 rw' => ⟨v, H2, I3, rw', q2⟩⟩
theorem pc_dnotin (hu : X.A.units + 1 < cLine) (hi : PE X i ty) (ho : PE X o td) : PC X .NotIn i o (tDNotIn ty td) := by
  intro pins s σ H Q I h
  refine thn (hi pins s σ H _ I h) fun iv s1 ⟨y, H1, I1, ry, q1⟩ => thn (ho pins s1 σ H1 _ I1 q1) fun u s2 ⟨x, H2, I2, rx, a, ov, ex, g, q2⟩ => ?_
  subst ex
  obtain rfl : u = Value.ref a := rx
  exact d_notIn hu I2 g ry fun s3 I3 => ⟨.bl (!ov.isSome), H2, I3, rfl, q2⟩
theorem ps_dput (hu : X.A.units + 1 < cLine) (ho : PE X o td) (hi : PE X i ty) (hv : PE X value tv) (hs : swapsWith value (some (.Subscript o i pos')) pos.line X.env = pure false) :
    PS X (.Assign [.Subscript o i pos'] value pos) (sDPut td ty tv) := by
  intro pins s σ H D I h
  refine wpAny_Assign_Subscript (thn (hv pins s σ H _ I h) fun r s1 ⟨v, H1, I1, rv, q1⟩ => thn (ho pins s1 σ H1 _ I1 q1) fun u s2 ⟨x, H2, I2, rx, q2⟩ => thn (hi pins s2 σ H2 _ I2 q2) fun iv s3 ⟨y, H3, I3, ry, a, H4, ex, g, q3⟩ => ?_) hs
  subst ex
  obtain rfl : u = Value.ref a := rx
  exact d_setItem hu I3 g ry rv fun s4 I4 => ⟨σ, H4, I4, q3⟩
end


/-! ### displays -/
theorem dk_empty {P : Program} {w : World} {H : Hp} (h : Heap) (hb : sysModules < h.objs.size) : ObjOk P w H (h.push { cls := .type "dict", data := .dict #[] }) h.objs.size (.dK []) :=
  ⟨Nat.zero_le _, beq_eq_false_iff_ne.mpr (Ne.symm (Nat.ne_of_lt hb)), [], .nil, Heap.DictOf.new h⟩
theorem dt_empty {P : Program} {w : World} {H : Hp} (h : Heap) (hb : sysModules < h.objs.size) : ObjOk P w H (h.push { cls := .type "dict", data := .dict #[] }) h.objs.size (.dT []) :=
  ⟨Nat.zero_le _, beq_eq_false_iff_ne.mpr (Ne.symm (Nat.ne_of_lt hb)), [], .nil, _, #[], 0, Heap.get?_push_size _ rfl, ⟨rfl, rfl, rfl⟩, rfl, rfl, List.nodup_nil⟩
/-- {}, to be a dict of the kind that is wanted -/
def tDNewK : TE := fun _ H Q => ∀ p, H p = none → Q (.ref p) (upd H p (.dK []))
section
variable {X : Cx} {pos : Pos}
theorem pe_dnewK : PE X (.Dict [] [] pos) tDNewK := fun pins s σ H Q I h =>
  wpAny_Dict_empty ⟨.ref s.heap.objs.size, _, I.laid (a := s.heap.objs.size) (o := .dK []) (t' := s.toks) (fun _ _ q => Heap.get?_push_of_some _ q) (Nat.le_refl _) (dk_empty s.heap I.big), rfl, h _ (I.hok.fresh (Nat.le_refl _))⟩
end

/-! ### methods -/
structure M2 (X : Cx) (o : Expr) (m : Str) (apos : Pos) (e f : Expr) (cpos : Pos) : Prop where
  base : attributeBase o m X.env (eval o X.env) = eval o X.env
  few : ((backTo cpos (starEach [e, f] X.env)).all (fun x => !x.1) && (backToKw cpos (keywordEach [] X.env)).all (fun x => x.1.isSome)
    && decide (([e, f] : List Expr).length + ([] : List Keyword).length + (if ([] : List Keyword).isEmpty then 0 else 1) < 30)) = true
  line : (apos.endLine == cpos.line) = true
  trees : backTo cpos (starEach [e, f] X.env) = [(false, eval e X.env), (false, eval f X.env)]

section
variable {X : Cx} {pins : List (Addr × Obj)} {σ : St} {H : Hp} {s : Shared} {a : Addr} {y d : V} {u r : Value} {o : Option V} {A : Around} {E : Value → Shared → Prop}
end

section
variable {X : Cx} {o e f : Expr} {apos cpos : Pos} {td ty tx : TE}
end

/-! ### dict(d): a copy -/
section
variable {X : Cx} {pins : List (Addr × Obj)} {σ : St} {H : Hp} {s : Shared} {a : Addr} {kvs : List (Key × V)} {A : Around} {E : Value → Shared → Prop}
end


section
variable {X : Cx} {pins : List (Addr × Obj)} {σ : St} {H : Hp} {s : Shared} {a : Addr} {y : V} {u : Value} {A : Around} {E : Value → Shared → Prop}
end
end L2

namespace Att
open PySem PySem.W PySem.Calls PyProof.Rows

/-! ### the script -/
theorem ints_of_wellAll {P : Params} {h : Heap} : ∀ (ns : List Int) (vs : List Value), WellAll P h vs (ns.map WData.int) → IntsAre vs ns := by
  intro ns
  induction ns with
  | nil =>
    intro vs w
    rw [List.map_nil] at w
    cases w
    exact .nil
  | cons n ns ih =>
    intro vs w
    rw [List.map_cons] at w
    cases w with
    | cons a b =>
      cases a
      exact .cons _ _ (ih _ b)

theorem script_of {l : OpenLaw} {n : Nat} (hn : l.most = some n) {P : Params} {h : Heap} {args : List WData} {vals : List Value}
    (hpre : l.row.toRowW.claim.pre args = true) (hwl : WellAll P h vals args) :
    ∃ a vs ns, vals = [Value.ref a] ∧ args = [WData.list (ns.map WData.int)] ∧ h.get? a = some { cls := .type "list", data := .seq vs.toArray } ∧ IntsAre vs ns ∧ ns.length ≤ n := by
  have hsh : WShape.hasAll [] args [.list .int] = true := (pre_splitW hpre).1
  have hc : l.pre.holds [] { args := args } = true := (pre_splitW hpre).2
  obtain ⟨d, r, rfl, h1, h2⟩ := hasAllW_cons hsh
  obtain rfl := hasAllW_nil h2
  obtain ⟨xs, rfl, h3⟩ := hasW_list h1
  obtain ⟨ns, rfl⟩ := items_int h3
  have hlen : ns.length ≤ n := by
    unfold OpenLaw.pre at hc
    have h4 : (WTm.not (.lt (.lit (.int (n : Int))) (.len (.arg 0)))).holds [] { args := [.list (ns.map .int)] } = true := by
      have h4 := (holds_andW hc).1
      rw [hn] at h4
      exact h4
    have h5 := condW_of h4 (w_not (w_lt w_lit (w_len_list (w_arg rfl))))
    rw [List.length_map] at h5
    refine Nat.le_of_not_lt fun q => ?_
    have q' : (n : Int) < ((ns.length : Nat) : Int) := by omega
    first
      | (rw [decide_eq_true q'] at h5; exact absurd h5 (by decide))
      | (simp at h5; omega)
  cases hwl with
  | cons w1 w2 =>
    cases w2
    cases w1 with
    | list ho hall => exact ⟨_, _, ns, rfl, rfl, ho, ints_of_wellAll ns _ hall, hlen⟩

theorem post_true (l : OpenLaw) (args : List WData) : l.row.toRowW.claim.post args (.bool true) args = true :=
  postW_of (r := l.row.toRowW) (X := (true == true))
    (show WShape.has [] (.bool true) .bool = true by first | rfl | decide | simp [WShape.has, WShape.arms, WShape.armsAll])
    (show (WTm.eq .res (.lit (.bool true))).value [] { args := args, res := some (.bool true), after := args } = some (.bool (true == true)) from w_eq_bool (w_res rfl) w_lit) rfl

/-! ### the attachment: holds_open's last premise (the goal 'hc' behind k_head) from a wpAny of the law's body -/
/-- the same from a codeAny of the CALL (for a layer whose function contracts speak of calls) -/
theorem attach_call {l : OpenLaw} {n : Nat} {q : Program} {loose : List Str} {XP : (Str → Option Value) → Heap → Prop} {YP : World → Heap → Prop} {d : DefRec}
    (hn : l.most = some n) (hdf : d.params.defaults = [])
    (call : ∀ (w : World) (s₀ s₁ : Shared) (mg mb : Str → Option Value) (fa : Addr) (o : Obj) (pm cd doc : Value) (a : Addr) (vs : List Value) (ns : List Int),
      Ground q loose [] XP w s₀ mg mb s₁.heap → YP w s₁.heap →
      s₁.heap.get? fa = some o → o.data = .func (docDef d.name d.params d.body d.scope pm cd doc) → s₁.heap.CodeRec cd d.name → mg d.name = some (.ref fa) →
      s₁.heap.get? a = some { cls := .type "list", data := .seq vs.toArray } → IntsAre vs ns → ns.length ≤ n → s₁.gens = #[] →
      codeAny (model l.prog w) callerA (.call (.ref fa) ⟨[.ref a], []⟩) (fun r s' => r = .ok (.ret (.bool true)) ∧ OldK s₁.heap s'.heap ∧ s'.os = s₁.os ∧ AllBare s'.gens) s₁) :
    WalkO q loose XP YP l.row.toRowW d [] (fun f vs => PySem.call f vs) := by
  intro w s₀ s₁ mg mb G Y fa o pm cd doc dV kV ho hd hcd hD hmg hg args vals as hpre hlay hrd hwl hlo
  obtain rfl : dV = .none := Dflts.none hD hdf
  obtain rfl : kV = .none := Dflts.noKw hD
  obtain ⟨a, vs, ns, rfl, rfl, hobj, hints, hlen⟩ := script_of hn hpre hwl
  refine enter_call (codeAny_mono (call w s₀ s₁ mg mb fa o pm cd doc a vs ns G Y ho (fd_plain hd) hcd hmg hobj hints hlen hg) fun r s' hq => ?_)
  obtain ⟨rfl, h2, h3, h4⟩ := hq
  exact ⟨.inl ⟨.bool true, .bool true, [], rfl, fun _ => rfl, .bool true, post_true l _, fun _ => ⟨List.Pairwise.nil, fun _ hm => (nomatch hm)⟩⟩, h2, h3, h4⟩

/-! ### rules over ANY heap (no ledger) from facts about the written part K: the library's own take a ledger (News) for what they write -/
section
variable {prog : Program} {w : World} {A : Around} {E : Value → Shared → Prop} {s : Shared} {K : Frag}

/-! the whole heap as the ledger: makes every rule that writes through a ledger a rule over any heap -/
def ledger (h : Heap) (L d : Addr) : List (Addr × Obj) := (List.range h.objs.size).filterMap fun a => if a = L ∨ a = d then none else (h.get? a).map fun o => (a, o)
end
end Att

namespace L2
open PySem PySem.Spec PyProof.Rows

theorem vals_ints : ∀ {vs : List Value} {ns : List Int}, IntsAre vs ns → Vals (ns.map V.int) vs
  | _, _, .nil => .nil
  | _, _, .cons n t h => .cons ⟨t, rfl⟩ (vals_ints h)

/-- nothing is tracked but the script, known to the object (or it is an object of the module) -/
def Only (H : Hp) : Prop := ∀ b, H b = none ∨ ∃ o xs, H b = some (.frz o (.lst xs))

/-- THE HEAD: the law's promise, at the heap behind the top. F, the promise of the law's def, may use that base is part of the heap (so K.In base, base.Ns mainGlobals mg stand in Mod) -/
theorem law_call {P : Program} {w : World} {K : PySem.W.Frag} {mg mb : Str → Option Value} {CX : CXT} {k : Nat} {fa a : Addr} {fd : FuncData} {x : Str} {sp : Sp} {s₁ : Shared} {vs : List Value} {ns : List Int}
    (KX : K.In s₁.heap) (hns : s₁.heap.Ns mainGlobals mg) (hb : s₁.heap.Ns builtinsNs mb) (hbb : ∀ x : Str, x ≠ "__name__" → mb x = bootBuiltins x) (hlim : s₁.heap.NoLimit) (hg : s₁.gens = #[])
    (ha : s₁.heap.get? a = some { cls := .type "list", data := .seq vs.toArray }) (hi : IntsAre vs ns) (hl : ns.length ≤ sizeLine) (hr : Room k callerA)
    (F : ∀ base : Heap, K.In base → base.Ns mainGlobals mg → FnOk P w K mg base CX k fa fd [x] sp) (hbind : ∀ (s : Shared) (u : Value), BindsTo s fd ⟨[u], []⟩ [(x, u)])
    (hsp : ∀ H : Hp, Only H → SqL K H a (ns.map V.int) → sp [.ref a] H (fun v _ => v = .bl true) fun _ _ _ => False)
    (hCX : ∀ H e s', CX [] H s₁ (fun _ _ _ => False) e s' → False) :
    codeAny (model P w) callerA (.call (.ref fa) ⟨[.ref a], []⟩) (fun r s' => r = .ok (.ret (.bool true)) ∧ OldK s₁.heap s'.heap ∧ s'.os = s₁.os ∧ AllBare s'.gens) s₁ := by
  have rv := vals_ints hi
  have lenV := hi.length
  -- from an abstract heap in which nothing but the script may be tracked
  have core : ∀ H : Hp, Only H → SqL K H a (ns.map V.int) → HOk P w H s₁.heap → (∀ b, H b ≠ none → b = a) → (H a ≠ none → K.lookup a = none) →
      codeAny (model P w) callerA (.call (.ref fa) ⟨[.ref a], []⟩) (fun r s' => r = .ok (.ret (.bool true)) ∧ OldK s₁.heap s'.heap ∧ s'.os = s₁.os ∧ AllBare s'.gens) s₁ := by
    intro H hO hS hok hA hK
    have base_of : ∀ {b : Addr} {o : Obj}, s₁.heap.get? b = some o → H b = none → (hidT s₁.heap H).get? b = some o := fun e n => hidT_get e n
    have noA : ∀ {b : Addr} {o : Obj} {es : Array DictEntry} {ep : Nat}, s₁.heap.get? b = some o → o.data = .dict es ep → H b = none := fun {b o es ep} e d => by
      cases q : H b with
      | none => rfl
      | some u =>
        have e' : b = a := hA b (by rw [q]; simp)
        subst e'
        rw [ha] at e; cases e
        have d' : Data.seq vs.toArray _ = Data.dict es ep := d
        cases d'
    have nsK : ∀ {b : Addr} {m : Str → Option Value}, s₁.heap.Ns b m → (hidT s₁.heap H).Ns b m := fun {b m} ⟨o, es, ep, e, d, r⟩ => ⟨o, es, ep, base_of e (noA e d), d, r⟩
    have hKb : K.In (hidT s₁.heap H) := fun b o e => base_of (KX b o e) (by
      cases q : H b with
      | none => rfl
      | some u =>
        have e' : b = a := hA b (by rw [q]; simp)
        subst e'
        rw [hK (by rw [q]; simp)] at e; cases e)
    have hM : Mod K mg (hidT s₁.heap H) := ⟨hKb, nsK hns, ⟨mb, nsK hb, hbb⟩, let ⟨mc, h1, h2⟩ := hlim; ⟨mc, nsK h1, h2⟩⟩
    have e0 : Env0 P w K mg (hidT s₁.heap H) callerA [] s₁ H := ⟨rfl, hM, fun b o e => of_hidT e, Nat.le_of_eq (hidT_size _ _), trivial, fun b hb => absurd (show b ∈ ([] : List Addr) from hb) (by simp), hok, .of_eq hg⟩
    refine codeAny_mono ((F _ hKb (nsK hns)).run callerA [] s₁ H ⟨[.ref a], []⟩ [.ref a] [.ref a] _ _ hr e0 (hbind s₁ (.ref a)) (.cons rfl .nil) (hsp H hO hS)) fun r s' h => ?_
    cases r with
    | error e => exact (hCX H e s' h).elim
    | ok fl =>
      cases fl with
      | next => exact False.elim h
      | brk => exact False.elim h
      | cont => exact False.elim h
      | ret u =>
        obtain ⟨v, H', os, bare, un, hok', r', q⟩ := h
        have q' : v = .bl true := q
        subst q'
        obtain rfl : u = Value.bool true := r'
        refine ⟨rfl, OldK.of_keep fun b o e => ?_, os, bare⟩
        cases q : H b with
        | none => exact un.keep b o e q (by intro z; exact absurd (show b ∈ ([] : List Addr) from z) (by simp)) (by simp)
        | some u =>
          rcases hO b with z | ⟨ob, xs, z⟩
          · rw [q] at z; cases z
          · have z2 := un.frzs b ob _ z
            obtain ⟨e1, _⟩ := hok b _ z
            obtain ⟨e2, _⟩ := hok' b _ z2
            rw [e] at e1; cases e1
            exact e2
  cases hk : K.lookup a with
  | some o =>
    -- the script is one of the module's own objects
    have e := KX a o hk
    rw [ha] at e
    cases e
    refine core (fun _ => none) (fun _ => .inl rfl) (.inr ⟨_, vs.toArray, _, hk, rfl, rfl, rfl, by rw [List.size_toArray, lenV]; exact hl, by simpa using rv⟩) (fun b u z => by have z' : (none : Option HO) = some u := z; cases z') (fun b z => absurd rfl z) fun z => absurd rfl z
  | none =>
    refine core (fun b => if b = a then some (.frz { cls := .type "list", data := .seq vs.toArray } (.lst (ns.map V.int))) else none) (fun b => ?_) (.inl (.inr ⟨{ cls := .type "list", data := .seq vs.toArray }, if_pos rfl⟩)) (fun b u z => ?_) (fun b z => ?_) fun _ => hk
    · by_cases hb : b = a
      · exact .inr ⟨_, _, if_pos hb⟩
      · exact .inl (if_neg hb)
    · by_cases hb : b = a
      · have z' := (if_pos hb).symm.trans z
        cases z'
        subst hb
        exact ⟨ha, by rw [List.length_map]; exact hl, vs, _, rv, ha⟩
      · have z' := (if_neg hb).symm.trans z
        cases z'
    · by_cases hb : b = a
      · exact hb
      · exact absurd (if_neg hb) z
end L2

namespace L2
open PySem PySem.Spec PyProof.Rows

/-- the goal that k_head leaves (case hc), from the law's promise. F gives the function object fd (K's own) once, then the promise over every base -/
theorem walk_of {l : PySem.W.OpenLaw} {n k : Nat} {q : Program} {loose : List Str} {XP : (Str → Option Value) → Heap → Prop} {YP : World → Heap → Prop} {d : DefRec} {K : Params → PySem.W.Frag} {CX : World → CXT} {sp : World → Sp} {x : Str}
    (hn : l.most = some n) (hn2 : n ≤ sizeLine) (hdf : d.params.defaults = []) (hr : Room k callerA)
    (hY : ∀ (w : World) (h : Heap), YP w h → (K w.params).In h)
    (F : ∀ (w : World) (mg : Str → Option Value) (fa : Addr) (h : Heap), (K w.params).In h → h.Ns mainGlobals mg → mg d.name = some (.ref fa) →
      ∃ fd : FuncData, (∀ (s : Shared) (u : Value), BindsTo s fd ⟨[u], []⟩ [(x, u)]) ∧
        ∀ base : Heap, (K w.params).In base → base.Ns mainGlobals mg → FnOk l.prog w (K w.params) mg base (CX w) k fa fd [x] (sp w))
    (hsp : ∀ (w : World) (H : Hp) (a : Addr) (ns : List Int), ns.length ≤ n → Only H → SqL (K w.params) H a (ns.map V.int) → sp w [.ref a] H (fun v _ => v = .bl true) fun _ _ _ => False)
    (hCX : ∀ (w : World) (H : Hp) (s : Shared) (e : Value) (s' : Shared), CX w [] H s (fun _ _ _ => False) e s' → False) :
    PySem.W.WalkO q loose XP YP l.row.toRowW d [] (fun f vs => PySem.call f vs) := by
  refine Att.attach_call hn hdf fun w s₀ s₁ mg mb fa o pm cd doc a vs ns G Y ho hd hcd hmg hobj hints hlen hg => ?_
  have KX := hY w _ Y
  obtain ⟨fd, hb, hF⟩ := F w mg fa _ KX G.T.g hmg
  exact law_call KX G.T.g G.T.b G.T.builtins G.T.nolimit hg hobj hints (Nat.le_trans hlen hn2) hr hF hb (fun H hO hS => hsp w H a ns hlen hO hS) fun H e s' => hCX w H s₁ e s'
end L2

/-! SHORT WORDS over the layer: a def of the text, its body, what a loop and a test want. -/
namespace L2
open PySem PySem.Spec PyProof.Rows

/-! ### the text by places -/
/-- the j-th statement of a class's body -/
def inClass (s : Stmt) (j : Nat) : Stmt := match s with
  | .ClassDef _ _ _ body _ _ _ _ _ _ _ => body.getD j (.Pass ⟨0, 0, 0, 0⟩)
  | _ => .Pass ⟨0, 0, 0, 0⟩
def defArgs (s : Stmt) : Arguments := match s with
  | .FunctionDef _ a _ _ _ _ _ _ _ _ => a
  | _ => { posonlyargs := [], args := [], vararg := none, kwonlyargs := [], kw_defaults := [], kwarg := none, defaults := [] }
def defBody (s : Stmt) : List Stmt := match s with
  | .FunctionDef _ _ b _ _ _ _ _ _ _ => b
  | _ => []
def defScope (s : Stmt) : Scope := match s with
  | .FunctionDef _ _ _ _ _ _ sc _ _ _ => sc
  | _ => { kind := .function, names := [], isGenerator := false, isCoroutine := false }

/-! ### no exception leaves a def -/
abbrev CX0 : CXT := fun _ _ _ _ _ _ => False
abbrev E0 : XK := fun _ _ _ => False
theorem pass0 {X : Cx} : Passes CX0 X E0 := fun _ _ _ _ _ _ _ h => h.elim

/-! ### a def (or method) of the text as it stands behind the top -/
structure Fun (K : PySem.W.Frag) (x qual : Str) (st : Stmt) (f : Addr) (fd : FuncData) : Prop where
  ex : ∃ (oc : Value) (od : Option Addr) (kV doc pm : Value) (an : Option Addr) (cdv ct : Value) (osl : Array (Option Value)),
    fd = PySem.W.fnOf x qual (defArgs st) (defBody st) (defScope st) .none kV doc pm an cdv ct ∧ K.lookup f = some ⟨oc, od, .func fd, osl⟩ ∧ PySem.W.codeIn K cdv qual = true
  kp : PySem.W.keepIn K (.ref f) = true
section
variable {P : Program} {w : World} {K : PySem.W.Frag} {mg : Str → Option Value} {base : Heap}
/-- THE RULE for a def: its body as a term of rules, and the reading of that term -/
theorem Fun.ok {x qual : Str} {st : Stmt} {f : Addr} {fd : FuncData} {N ps : List Str} {k : Nat} {sp : Sp} (F : Fun K x qual st f fd) (S : FnScope N ps (defScope st)) (len : ∀ vs H Q E, sp vs H Q E → vs.length = ps.length)
    (hbody : ∀ (cdv : Value) (A : Around) (outer : List Env) (s : Shared) (H : Hp) (vs : List V) (Q : VK) (E : XK), Room k (A.deeper (envOfC qual (defScope st) s.heap.objs.size f cdv)) → sp vs H Q E →
      ∃ t, PSs (cxOf CX0 P w K mg base N qual (defScope st) f cdv A outer s H E).nox (defBody st) t ∧ t { nx := fun _ H' => Q .non H', rt := Q } (start N vs) H) : FnOk P w K mg base CX0 (k + 1) f fd ps sp := by
  obtain ⟨oc, od, kV, doc, pm, an, cdv, ct, osl, rfl, lk, hcd⟩ := F.ex
  refine fn_of lk hcd S len fun A outer s H vs Q E hr hsp => ?_
  obtain ⟨t, h, q⟩ := hbody cdv A outer s H vs Q E hr hsp
  exact ⟨t, h.nox, q⟩
/-- how its arguments bind (no defaults): h is «fun _ _ _ _ _ _ us hl => match us, hl with | [_, _], _ => rfl», one _ a parameter -/
theorem Fun.binds {x qual : Str} {st : Stmt} {f : Addr} {fd : FuncData} {ps : List Str} (F : Fun K x qual st f fd)
    (h : ∀ (kV doc pm : Value) (an : Option Addr) (cdv ct : Value) (us : List Value), us.length = ps.length → bindArgs (PySem.W.fnOf x qual (defArgs st) (defBody st) (defScope st) .none kV doc pm an cdv ct) ⟨us, []⟩ = pure (ps.zip us)) : Binds K fd ps [] := by
  obtain ⟨oc, od, kV, doc, pm, an, cdv, ct, osl, rfl, lk, hcd⟩ := F.ex
  exact .all (h kV doc pm an cdv ct)
theorem fun_mk {x qual : Str} {st : Stmt} {f : Addr} {oc : Value} {od an : Option Addr} {osl : Array (Option Value)} {kV doc pm cdv ct : Value} (l : K.lookup f = some ⟨oc, od, .func (PySem.W.fnOf x qual (defArgs st) (defBody st) (defScope st) .none kV doc pm an cdv ct), osl⟩)
    (c : PySem.W.codeIn K cdv qual = true) (k : PySem.W.keepIn K (.ref f) = true) : Fun K x qual st f (PySem.W.fnOf x qual (defArgs st) (defBody st) (defScope st) .none kV doc pm an cdv ct) := ⟨⟨oc, od, kV, doc, pm, an, cdv, ct, osl, rfl, l, c⟩, k⟩
end
theorem hu_of {A : Around} {k : Nat} (hr : Room k A) : A.units + 1 < cLine := Nat.lt_of_le_of_lt (Nat.add_le_add_left (by decide : 1 ≤ 64) _) hr.units
theorem small1000 {n : Nat} (h : n ≤ 1000) : n < sizeLine := Nat.lt_of_le_of_lt h (by decide)

/-! ### expressions in short: the name that stands in the i-th slot -/
section
variable {X : Cx}
theorem pv (i : Nat) {x : Str} {pos : Pos} (hN : X.N[i]? = some x := by rfl) (hv : Vis X.env.scope x := by first | exact Or.inl rfl | exact Or.inr (Or.inl rfl) | exact Or.inr (Or.inr rfl)) (hd : (x == ("__debug__" : Str)) = false := by decide)
    (hcd : (x == ("__classdict__" : Str)) = false := by decide) : PE X (.Name x pos) (tVar i) := pe_var hN hv hd hcd
/-- len of a dict -/
theorem call_lenD : CallR X (.builtin "len") (fun xs H Q => ∃ a kvs, xs = [V.ref a] ∧ H a = some (.dK kvs) ∧ Q (.int kvs.length) H) := by
  intro pins s σ H xs us Q I r h
  obtain ⟨a, kvs, rfl, ha, q⟩ := h
  obtain ⟨u, rfl, ru⟩ := vals1 r
  cases ru
  exact d_len I (.inl ha) fun t s' I' => ⟨.int kvs.length, H, I', ⟨t, rfl⟩, q⟩
end

/-! ### tests -/
theorem iteF {A B : Prop} (h : B) : if false = true then A else B := by
  rw [if_neg Bool.false_ne_true]
  exact h
theorem iteT {A B : Prop} (h : A) : if true = true then A else B := by
  rw [if_pos rfl]
  exact h
theorem ite2 {c A B : Prop} [Decidable c] (h1 : c → A) (h2 : ¬ c → B) : if c then A else B := by
  by_cases h : c
  · rw [if_pos h]
    exact h1 h
  · rw [if_neg h]
    exact h2 h
/-! ### heaps -/
/-- all that was tracked is as it was -/
def Same (H H' : Hp) : Prop := ∀ b o, H b = some o → H' b = some o
theorem Same.refl (H : Hp) : Same H H := fun _ _ h => h
theorem Same.trans {H H1 H2 : Hp} (a : Same H H1) (b : Same H1 H2) : Same H H2 := fun c o h => b c o (a c o h)
theorem Same.free {H H' : Hp} (e : Same H H') {l : Addr} (h : H' l = Option.none) : H l = Option.none := by
  cases q : H l with
  | none => rfl
  | some o =>
    rw [e l o q] at h
    cases h
theorem Same.seq {K : PySem.W.Frag} {H H' : Hp} {a : Addr} {xs : List V} (e : Same H H') (h : SqL K H a xs) : SqL K H' a xs := by
  rcases h with (h | ⟨o, h⟩) | h
  · exact .inl (.inl (e _ _ h))
  · exact .inl (.inr ⟨o, e _ _ h⟩)
  · exact .inr h

/-! ### a dict's pairs: keys that differ -/
section
variable {κ : Type} [DecidableEq κ]
theorem valV_not {kvs : List (κ × V)} {k : κ} (h : valV kvs k = none) : ¬ k ∈ kvs.map (·.1) := by
  intro m
  obtain ⟨p, hp, e⟩ := List.mem_map.mp m
  have q : (kvs.any fun kv => decide (kv.1 = k)) = true := List.any_eq_true.mpr ⟨p, hp, decide_eq_true e⟩
  rw [valV_any, h] at q
  exact absurd q (by simp)
theorem valV_in {kvs : List (κ × V)} {k : κ} {v : V} (h : valV kvs k = some v) : k ∈ kvs.map (·.1) := by
  have q : (kvs.any fun kv => decide (kv.1 = k)) = true := by
    rw [valV_any, h]
    all_goals rfl
  obtain ⟨p, hp, e⟩ := List.any_eq_true.mp q
  exact List.mem_map.mpr ⟨p, hp, of_decide_eq_true e⟩
theorem nd_snoc : ∀ {l : List κ} {k : κ}, l.Nodup → ¬ k ∈ l → (l ++ [k]).Nodup
  | [], k, _, _ => by simp
  | a :: r, k, h, hk => by
    obtain ⟨h1, h2⟩ := List.nodup_cons.mp h
    show (a :: (r ++ [k])).Nodup
    refine List.nodup_cons.mpr ⟨fun m => ?_, nd_snoc h2 fun m => hk (List.mem_cons.mpr (Or.inr m))⟩
    rcases List.mem_append.mp m with q | q
    · exact h1 q
    · exact hk (List.mem_cons.mpr (Or.inl (List.mem_singleton.mp q).symm))
end
end L2


/-! COMPREHENSIONS over the layer: [elt for x in iter if c] -/
namespace L2
open PySem PySem.Spec PyProof.Rows

theorem forIn_fold {α β : Type} {f : α → β → Sem (ForInStep β)} (g : α → β → β) : ∀ (l : List α) (c : β), (∀ x ∈ l, ∀ c, f x c = pure (.yield (g x c))) → forIn l c f = pure (l.foldl (fun c x => g x c) c)
  | [], _, _ => rfl
  | x :: l, c, h => by
    rw [List.forIn_cons, h x List.mem_cons_self, pure_bind]
    exact forIn_fold g l (g x c) fun y hy => h y (List.mem_cons_of_mem _ hy)

/-- one name of a block's scope: its cell of the frame around, if it is free there -/
def closStep (env : Env) (y : Str × NameKind) (cs : List (Str × Addr)) : List (Str × Addr) := if (y.2 == NameKind.free) = true then (y.1, (env.cells.lookup y.1).getD 0) :: cs else cs
def closGo (env : Env) (l : List (Str × NameKind)) (cs : List (Str × Addr)) : List (Str × Addr) := l.foldl (fun cs y => closStep env y cs) cs
def HasCells (env : Env) (l : List (Str × NameKind)) : Prop := ∀ y ∈ l, y.2 = .free → ∃ c, env.cells.lookup y.1 = some c

theorem closFor {sc : Scope} {env : Env} (h : HasCells env sc.names) : closureFor sc env = pure (closGo env sc.names []) := by
  simp only [closureFor]
  rw [forIn_fold (closStep env) sc.names [] (fun y hy cs => by
    obtain ⟨n, k⟩ := y
    unfold closStep
    cases hk : (k == NameKind.free) with
    | false => simp only [hk, Bool.false_eq_true, if_false]
    | true =>
      obtain ⟨c, hc⟩ := h _ hy (by simpa using hk)
      have hc' : env.cells.lookup n = some c := hc
      simp only [hk, if_true, cellOf, hc']
      rfl)]
  rfl

theorem clos_some {env : Env} : ∀ {l : List (Str × NameKind)} {cs : List (Str × Addr)} {y : Str} {c : Addr}, HasCells env l → (closGo env l cs).lookup y = some c → env.cells.lookup y = some c ∨ cs.lookup y = some c
  | [], _, _, _, _, h => .inr h
  | (n, k) :: r, cs, y, c, hl, h => by
    have h : (closGo env r (closStep env (n, k) cs)).lookup y = some c := h
    have hr : HasCells env r := fun z hz => hl z (List.mem_cons_of_mem _ hz)
    rcases clos_some hr h with q | q
    · exact .inl q
    · unfold closStep at q
      by_cases e : (k == NameKind.free) = true
      · rw [if_pos e] at q
        obtain ⟨c0, h0⟩ := hl (n, k) List.mem_cons_self (by simpa using e)
        have h0 : env.cells.lookup n = some c0 := h0
        rw [List.lookup_cons] at q
        cases e2 : (y == n) with
        | true =>
          rw [e2] at q
          have e3 : y = n := by simpa using e2
          subst e3
          left
          rw [h0] at q ⊢
          exact q
        | false =>
          rw [e2] at q
          exact .inr q
      · rw [if_neg e] at q
        exact .inr q

theorem clos_has {env : Env} : ∀ {l : List (Str × NameKind)} {cs : List (Str × Addr)} {y : Str} {c : Addr}, env.cells.lookup y = some c → ((y, NameKind.free) ∈ l ∨ cs.lookup y = some c) → (closGo env l cs).lookup y = some c
  | [], _, _, _, _, h => by
    rcases h with h | h
    · cases h
    · exact h
  | (n, k) :: r, cs, y, c, hc, h => by
    show (closGo env r (closStep env (n, k) cs)).lookup y = some c
    refine clos_has hc ?_
    unfold closStep
    by_cases e : (k == NameKind.free) = true
    · rw [if_pos e]
      by_cases e2 : y = n
      · subst e2
        right
        rw [List.lookup_cons]
        simp [hc]
      · rcases h with h | h
        · rcases List.mem_cons.mp h with q | q
          · cases q; exact absurd rfl e2
          · exact .inl q
        · right
          rw [List.lookup_cons]
          have e3 : (y == n) = false := by simpa using e2
          rw [e3]
          exact h
    · rw [if_neg e]
      rcases h with h | h
      · rcases List.mem_cons.mp h with q | q
        · cases q; exact absurd rfl e
        · exact .inl q
      · exact .inr h

theorem relabel_free {env : Env} (hk : env.scope.kind = .function) : ∀ {names : List (Str × NameKind)} {y : Str}, names.lookup y = some .free → env.kindOf y = some .cell →
    (names.map fun (n, k) => if (k == NameKind.free && env.scope.kind == .function && env.kindOf n == some .cell) then (n, NameKind.cell) else (n, k)).lookup y = some .cell
  | [], _, h, _ => by simp at h
  | (n, k) :: r, y, h, hy => by
    have ih := @relabel_free env hk r y
    show List.lookup y ((if (k == NameKind.free && env.scope.kind == .function && env.kindOf n == some .cell) = true then (n, NameKind.cell) else (n, k)) :: _) = _
    cases hx : y == n with
    | true =>
      simp only [List.lookup_cons, hx] at h
      have e3 : y = n := by simpa using hx
      subst e3
      cases h
      rw [if_pos (by rw [hk, hy]; rfl)]
      simp [List.lookup_cons]
    | false =>
      simp only [List.lookup_cons, hx] at h
      by_cases hc : (k == NameKind.free && env.scope.kind == .function && env.kindOf n == some .cell) = true
      · rw [if_pos hc]; simp only [List.lookup_cons, hx]; exact ih h hy
      · rw [if_neg hc]; simp only [List.lookup_cons, hx]; exact ih h hy
theorem relabel_inv {env : Env} : ∀ {names : List (Str × NameKind)} {y : Str} {k' : NameKind},
    (names.map fun (n, k) => if (k == NameKind.free && env.scope.kind == .function && env.kindOf n == some .cell) then (n, NameKind.cell) else (n, k)).lookup y = some k' → names.lookup y = some k' ∨ names.lookup y = some .free
  | [], _, _, h => by simp at h
  | (n, k) :: r, y, k', h => by
    have h : List.lookup y ((if (k == NameKind.free && env.scope.kind == .function && env.kindOf n == some .cell) = true then (n, NameKind.cell) else (n, k)) :: r.map fun (n, k) => if (k == NameKind.free && env.scope.kind == .function && env.kindOf n == some .cell) then (n, NameKind.cell) else (n, k)) = some k' := h
    cases hx : y == n with
    | true =>
      simp only [List.lookup_cons, hx]
      by_cases hc : (k == NameKind.free && env.scope.kind == .function && env.kindOf n == some .cell) = true
      · right
        have : (k == NameKind.free) = true := by
          simp only [Bool.and_eq_true] at hc
          exact hc.1.1
        have e : k = .free := by simpa using this
        rw [e]
      · rw [if_neg hc] at h
        simp only [List.lookup_cons, hx] at h
        exact .inl h
    | false =>
      simp only [List.lookup_cons, hx]
      by_cases hc : (k == NameKind.free && env.scope.kind == .function && env.kindOf n == some .cell) = true
      · rw [if_pos hc] at h; simp only [List.lookup_cons, hx] at h; exact relabel_inv h
      · rw [if_neg hc] at h; simp only [List.lookup_cons, hx] at h; exact relabel_inv h

/-- the scope of a block within a def: osc, oN the def's scope and names; sc the block's; x its own name; N the names it reads of the def, fr their places in oN -/
structure BlkScope (osc : Scope) (oN : List Str) (sc : Scope) (x : Str) (N : List Str) (fr : List Nat) : Prop where
  kind : sc.kind = .function
  nocell : ∀ y ∈ sc.names, y.2 ≠ .cell
  names : ∀ y ∈ sc.names, y.2 = .local → sc.names.lookup y.1 = some .local
  free : ∀ y ∈ sc.names, y.2 = .free → osc.names.lookup y.1 = some .cell
  xl : sc.names.lookup x = some .local
  nd : (x :: N).Nodup
  ix : fr.map (fun i => oN[i]?) = N.map some
  fk : ∀ y ∈ N, sc.names.lookup y = some .free

/-- the block of a comprehension, as a context: no exception leaves it -/
def blk (X : Cx) (sc : Scope) (N : List Str) (C : Addr) (ex : List Addr) (s : Shared) (H : Hp) : Cx where
  prog := X.prog
  w := X.w
  K := X.K
  mg := X.mg
  base := X.base
  A := X.A
  N := N
  s₀ := s
  H₀ := H
  env := compEnvC sc (closGo X.env sc.names []) C X.env
  outer := X.stack
  stack := X.stack
  ex := ex
  fn := fun _ => false
  calm := X.calm
  pn := []
  xe := fun _ _ => False

section
variable {X : Cx} {pins : List (Addr × Obj)} {σ : St} {H : Hp} {s : Shared} {sc : Scope} {x : Str} {N : List Str} {fr : List Nat} {C : Addr} {ex : List Addr}

theorem Inv.cells (I : Inv X pins σ H s) (S : BlkScope X.env.scope X.N sc x N fr) : HasCells X.env sc.names := fun y hy hk => I.ok.has y.1 (.inl (S.free y hy hk))
theorem Inv.clos (I : Inv X pins σ H s) (S : BlkScope X.env.scope X.N sc x N fr) {y : Str} {c : Addr} (h : (closGo X.env sc.names []).lookup y = some c) : X.env.cells.lookup y = some c := by
  rcases clos_some (I.cells S) h with q | q
  · exact q
  · simp at q

theorem blk_ok (I : Inv X pins σ H s) (S : BlkScope X.env.scope X.N sc x N fr) (hC : s.heap.objs.size ≤ C) (hf : ∀ b ∈ ex, FpOk X pins H b) (hlt : ∀ b ∈ ex, b < s.heap.objs.size) : (blk X sc (x :: N) C ex s H).Ok where
  mod := I.ok.mod
  kind := S.kind
  glob := I.ok.glob
  blt := I.ok.blt
  above := hC
  inj := fun a b c h1 h2 => I.ok.inj a b c (I.clos S h1) (I.clos S h2)
  has := fun y hy => by
    have hfree : sc.names.lookup y = some .free := by
      rcases hy with hy | hy
      · rcases relabel_inv (env := X.env) (names := sc.names) hy with q | q
        · exact absurd rfl (S.nocell _ (PySem.mem_of_lookup q))
        · exact q
      · rcases relabel_inv (env := X.env) (names := sc.names) hy with q | q
        · exact q
        · exact q
    obtain ⟨c, hc⟩ := I.cells S (y, .free) (PySem.mem_of_lookup hfree) rfl
    exact ⟨c, clos_has hc (.inl (PySem.mem_of_lookup hfree))⟩
  cab := fun _ _ h => absurd (show false = true from h) Bool.false_ne_true
  hd := I.ok.hd
  frames := I.ok.frames
  stk := .inl rfl
  exf := fun b hb => ⟨Nat.ne_of_lt (Nat.lt_of_lt_of_le (hlt b hb) hC), fun y c h z => (hf b hb).2.2.2.2.1 y c (I.clos S h) z⟩
  bs := I.bs
  bsz := Nat.le_trans I.ok.bsz I.sz
  noex := fun b o e hb => by
    rcases (hf b hb).2.2.2.1 with z | z
    · exact I.ok.noex b o e z
    · exact absurd (Nat.lt_of_lt_of_le (Heap.lt_size e) (Nat.le_trans I.ok.bsz z)) (Nat.lt_irrefl _)
  exfs := fun b hb z => by
    rcases List.mem_cons.mp (I.stkSub b z) with q | q
    · exact (hf b hb).2.1 q
    · exact (hf b hb).2.2.1 q
  funs := I.stack
  frf := I.stkFree

/-- the values of the names around that a block reads -/
def seen (σ : St) (fr : List Nat) : St := fr.map fun i => (σ[i]?).join
theorem seen_get {i : Nat} {v : V} (h : (seen σ fr)[i]? = some (some v)) : ∃ j, fr[i]? = some j ∧ σ[j]? = some (some v) := by
  unfold seen at h
  rw [List.getElem?_map] at h
  cases e : fr[i]? with
  | none => rw [e] at h; cases h
  | some j =>
    rw [e] at h
    refine ⟨j, rfl, ?_⟩
    have h : (σ[j]?).join = some v := Option.some.inj h
    cases e2 : σ[j]? with
    | none => rw [e2] at h; cases h
    | some o => rw [e2] at h; have h : o = some v := h; rw [h]

/-- a block begins -/
theorem blk_start (I : Inv X pins σ H s) (S : BlkScope X.env.scope X.N sc x N fr) (hC : s.heap.objs.size ≤ C) (hf : ∀ b ∈ ex, FpOk X pins H b) (hlt : ∀ b ∈ ex, b < s.heap.objs.size) {h' : Heap} {t' : Nat}
    (hn : ∃ m, h'.Ns C m) (k : ∀ b o, s.heap.get? b = some o → h'.get? b = some o) : Inv (blk X sc (x :: N) C ex s H) [] (none :: seen σ fr) H { s with heap := h', toks := t' } := by
  obtain ⟨m, hn⟩ := hn
  have hlen : fr.length = N.length := by have := congrArg List.length S.ix; simpa using this
  refine ⟨blk_ok I S hC hf hlt, rfl, I.bare, Un.kept k, ⟨m, hn, fun i y v h1 h2 h3 => ?_⟩, fun y c h => ?_, I.hok.fresh hC, fun y c h => I.freeC y c (I.clos S h), fun p hp => absurd (show p ∈ ([] : List (Addr × Obj)) from hp) (by simp), I.hok.kept k, ?_⟩
  · cases i with
    | zero => cases (show some (none : Option V) = some (some v) from h2)
    | succ i =>
      have h2 : (seen σ fr)[i]? = some (some v) := h2
      have h1 : N[i]? = some y := h1
      obtain ⟨j, hj, hv⟩ := seen_get h2
      have e1 : (fr.map fun i => X.N[i]?)[i]? = (N.map some)[i]? := by rw [S.ix]
      rw [List.getElem?_map, List.getElem?_map, hj, h1] at e1
      have e1 : X.N[j]? = some y := Option.some.inj e1
      have hfree := S.fk y (List.mem_of_getElem? h1)
      have hcell : X.env.scope.names.lookup y = some .cell := S.free (y, .free) (PySem.mem_of_lookup hfree) rfl
      obtain ⟨m0, _, hl⟩ := I.loc
      obtain ⟨u, ru, l⟩ := hl j y v e1 hv (.inr (.inl hcell))
      refine ⟨u, ru, ?_⟩
      rcases l with ⟨q, _⟩ | ⟨_, c, hc, o, ho, hd⟩
      · have q : X.env.scope.names.lookup y = some .local := q
        rw [hcell] at q
        cases q
      · exact .inr ⟨.inl (relabel_free I.ok.kind hfree hcell), c, clos_has hc (.inl (PySem.mem_of_lookup hfree)), o, k _ o ho, hd⟩
  · obtain ⟨v, o, ho, hd⟩ := I.cell y c (I.clos S h)
    exact ⟨v, o, k _ o ho, hd⟩
  · show (none :: seen σ fr).length = (x :: N).length
    unfold seen
    rw [List.length_cons, List.length_map, hlen, List.length_cons]

theorem Un.track {fs ex : List Addr} {H H' : Hp} {h h' : Heap} {D : Addr} {o : HO} (u : Un fs ex H H' h h') (hn : H' D = none) (hD : h.objs.size ≤ D) : Un fs ex H (upd H' D o) h h' where
  keep := u.keep
  slot := u.slot
  free := fun b ob e n hx => by rw [upd_ne (Nat.ne_of_lt (Nat.lt_of_lt_of_le (Heap.lt_size e) hD))]; exact u.free b ob e n hx
  there := u.there
  tups := fun b xs q => by rw [upd_ne (ne_of_none (u.tups b xs q) hn)]; exact u.tups b xs q
  frzs := fun b ob xs q => by rw [upd_ne (ne_of_none (u.frzs b ob xs q) hn)]; exact u.frzs b ob xs q
  tbls := fun b ps q => by
    obtain ⟨m, e⟩ := u.tbls b ps q
    exact ⟨m, by rw [upd_ne (ne_of_none e hn)]; exact e⟩
theorem HOk.track {P : Program} {w : World} {H : Hp} {h : Heap} {D : Addr} {o : HO} (ok : HOk P w H h) (hn : H D = none) (new : ObjOk P w (upd H D o) h D o) : HOk P w (upd H D o) h := fun b u e => by
  by_cases hb : b = D
  · subst hb; rw [upd_same] at e; cases e; exact new
  · rw [upd_ne hb] at e
    exact (ok b u e).stay (fun _ _ _ q => q) (fun c q => by rw [upd_ne (ne_of_none q hn)]; exact q) fun c xs q => by rw [upd_ne (ne_of_none q hn)]; exact q
end

section
variable {prog : Program} {w : World} {A : Around} {R : Result → Shared → Prop} {s : Shared}
abbrev NoE : Value → Shared → Prop := fun _ _ => False
theorem noE {α : Type} {M : Model} {A : Around} {t : Sem α} {Q : α → Shared → Prop} {E : Value → Shared → Prop} {s : Shared} (h : wpAny M A t Q NoE s) : wpAny M A t Q E s := wpAny_mono h (fun _ _ q => q) fun _ _ z => False.elim z
/-- a comprehension's loop: no exception -/
theorem comp_loop {elt target iter : Expr} {ifs : List Expr} {scope : Scope} {pos : Pos} {it acc : Value} {env : Env} (I : Nat → Shared → Prop)
    (turn : ∀ n s, I n s → wpAny (model prog w) A (pyNext it) (fun r s₁ => match r with
      | none => R (.ok .next) s₁
      | some v => wpAny (model prog w) A (letOwnedTupleGo target it v) (fun _ s₁ => wpAny (model prog w) A (assign target env v) (fun _ s₂ =>
          wpAny (model prog w) A (forIn ifs true fun c r => if r = true then do let ok ← isTrue c env (eval c env); pure (ForInStep.yield ok) else pure (ForInStep.yield r)) (fun ok s₃ =>
            if ok = true then wpAny (model prog w) A (eval elt env) (fun x s₄ =>
              wpAny (model prog w) A (call (.builtin "list.append") [acc, x]) (fun _ s₅ => ∃ m, m < n ∧ I m s₅) NoE s₄) NoE s₃
            else ∃ m, m < n ∧ I m s₃) NoE s₂) NoE s₁) NoE s₁) NoE s)
    (n : Nat) (h : I n s) :
    codeAny (model prog w) A (.compLoop (.ListComp elt [⟨target, iter, ifs, 0⟩] scope pos) 0 it acc env) R s := by
  refine codeAny_loop rfl I (fun n s hI => ?_) n h
  show wpAny _ A ((compTurn (.ListComp elt [⟨target, iter, ifs, 0⟩] scope pos) 0 it acc env).onRaise (fun x => do noteFrame x env; theTreesLotGoes x)) _ _ s
  refine wpAny_noted ?_
  rw [compTurn_list]
  refine noE (wpAny_bind (wpAny_standAt (wpAny_bind (wpAny_mono (turn n s hI) (fun r s₁ h₁ => ?_) fun _ _ h' => h'))))
  cases r with
  | none => exact wpAny_pure h₁
  | some v =>
    refine wpAny_bind (thn h₁ fun _ s₂ h₂ => wpAny_bind (thn h₂ fun _ s₃ h₃ => wpAny_bind (thn h₃ fun ok s₄ h₄ => ?_)))
    cases ok with
    | false => exact wpAny_pure ⟨rfl, h₄⟩
    | true => exact wpAny_bind (wpAny_bind (thn h₄ fun x s₅ h₅ => wpAny_bind (thn h₅ fun _ s₆ h₆ => wpAny_pure (wpAny_pure ⟨rfl, h₆⟩))))
end

/-- the tests of a clause -/
def PIfs (X : Cx) (ifs : List Expr) (t : TT) : Prop :=
  ∀ (pins : List (Addr × Obj)) (s : Shared) (σ : St) (H : Hp) (Q : Bool → Hp → Prop), Inv X pins σ H s → t σ H Q →
    wpAny (model X.prog X.w) X.A (forIn ifs true fun c r => if r = true then do let ok ← isTrue c X.env (eval c X.env); pure (ForInStep.yield ok) else pure (ForInStep.yield r)) (TP X pins σ Q) X.xe s
def tNoIf : TT := fun _ H Q => Q true H
theorem pifs_nil {X : Cx} : PIfs X [] tNoIf := fun _ _ _ H _ I h => wpAny_tests_nil ⟨H, I, h⟩
/-- [elt for x in iter if c]: W an invariant over the turn, a measure, the items so far, the heap -/
def tCompK (fr : List Nat) (tc : TT) (te : TE) (σ : St) (Q : VK) : It → Hp → Prop := fun J H1 => ∃ W : Nat → Nat → List V → Hp → Prop, (∃ m, W 0 m [] H1) ∧ ∀ i m ys H, W i m ys H →
  (J.stop i H ∧ ys.length ≤ sizeLine ∧ ∀ p, H p = none → Q (.ref p) (upd H p (.lst ys))) ∨
  (J.go i H ∧ ys.length < sizeLine ∧ ∃ N : List V → Hp → Prop, (∀ ys' H', N ys' H' → ∃ m', m' < m ∧ W (i + 1) m' ys' H') ∧ ∀ v H', J.yld i H v H' → tc (some v :: seen σ fr) H' fun b H2 =>
    if b = true then te (some v :: seen σ fr) H2 fun y H3 => N (ys ++ [y]) H3 else N ys H2)
def tComp (wi : TI) (fr : List Nat) (tc : TT) (te : TE) : TE := fun σ H Q => wi σ H (tCompK fr tc te σ Q)

section
variable {X : Cx} {elt iter : Expr} {x : Str} {px pos : Pos} {ifs : List Expr} {sc : Scope} {N : List Str} {fr : List Nat} {wi : TI} {tc : TT} {te : TE}
abbrev lob (its : List Value) (n : Nat) : Obj := { cls := .type "list", data := .seq its.toArray n }

/-- the heart: the list, the block, the loop; RR is what is wanted behind it -/
theorem comp_core (S : BlkScope X.env.scope X.N sc x N fr) (hcalm : X.calm = true) (hc : ∀ C ex s H, PIfs (blk X sc (x :: N) C ex s H) ifs tc) (he : ∀ C ex s H, PE (blk X sc (x :: N) C ex s H) elt te)
    {pins : List (Addr × Obj)} {σ : St} {H : Hp} {s : Shared} {E : Value → Shared → Prop} {it : Addr} {fp : List Addr} {tn : Nat → Heap → Prop} {J : It} {Q : VK} {RR : Value → Addr → Result → Shared → Prop}
    (I : Inv X pins σ H s) (T : Turn X.prog X.w X.K (.Name x px) J fp it tn) (st : tn 0 s.heap) (f2 : ∀ b ∈ fp, FpOk X pins H b)
    (hW : ∃ W : Nat → Nat → List V → Hp → Prop, (∃ m, W 0 m [] H) ∧ ∀ i m ys H, W i m ys H →
      (J.stop i H ∧ ys.length ≤ sizeLine ∧ ∀ p, H p = none → Q (.ref p) (upd H p (.lst ys))) ∨
      (J.go i H ∧ ys.length < sizeLine ∧ ∃ N : List V → Hp → Prop, (∀ ys' H', N ys' H' → ∃ m', m' < m ∧ W (i + 1) m' ys' H') ∧ ∀ v H', J.yld i H v H' → tc (some v :: seen σ fr) H' fun b H2 =>
        if b = true then te (some v :: seen σ fr) H2 fun y H3 => N (ys ++ [y]) H3 else N ys H2))
    (hRR : ∀ (D C : Addr) (H' : Hp) (s' : Shared), Inv X pins σ H' s' → (∃ o, s'.heap.get? C = some o ∧ (∃ m, s'.heap.Ns C m) ∧ ∀ v, o.data ≠ .cell v) → FpOk X pins H' C → Q (.ref D) H' → RR (.ref D) C (.ok .next) s') :
    wpAny (model X.prog X.w) X.A (newList []) (fun acc s₃ => wpAny (model X.prog X.w) X.A (newFunctionEnv sc X.env.globals (closGo X.env sc.names []) [] X.env.qual none .none (some X.env)) (fun cenv s₄ =>
      codeAny (model X.prog X.w) X.A (.compStart (.ListComp elt [⟨.Name x px, iter, ifs, 0⟩] sc pos) 0 (.ref it) acc { cenv with scope := relabel sc X.env }) (RR acc cenv.locals) s₄) E s₃) E s := by
  obtain ⟨W, ⟨m0, w0⟩, turn⟩ := hW
  have hlt : ∀ b ∈ fp, b < s.heap.objs.size := fun b hb => let ⟨o, e, _⟩ := T.obj _ _ st b hb; Heap.lt_size e
  refine wpAny_newObj_type (wpAny_newFunctionEnv S.nocell (by intro y hy; simp at hy) (fun h₁ hns₁ hsb₁ => ?_) S.kind)
  dsimp only at hns₁ hsb₁ ⊢
  generalize hH2 : s.heap.push { cls := .type "list", dict := none, data := .seq ([] : List Value).toArray } = H2 at hns₁ hsb₁ ⊢
  have hC : H2.objs.size = s.heap.objs.size + 1 := by rw [← hH2, Heap.size_push]
  have hDC : s.heap.objs.size ≠ H2.objs.size := by rw [hC]; exact Nat.ne_of_lt (Nat.lt_succ_self _)
  have hCle : s.heap.objs.size ≤ H2.objs.size := by rw [hC]; exact Nat.le_succ _
  have old : ∀ b o, s.heap.get? b = some o → h₁.get? b = some o := fun b o e =>
    hsb₁.extBut b o (by rw [hC]; exact Nat.ne_of_lt (Nat.lt_succ_of_lt (Heap.lt_size e))) (Heap.get?_push_of_some _ (hH2 ▸ Heap.get?_push_of_some _ e))
  have eD : h₁.get? s.heap.objs.size = some (lob [] 0) := hsb₁.extBut _ _ hDC (Heap.get?_push_of_some _ (hH2 ▸ Heap.get?_push_size _ rfl))
  -- the block's own facts
  have fpX : ∀ {H' : Hp} {o : Obj}, (∀ b ∈ fp, H' b = none) → ∀ b ∈ fp, FpOk (blk X sc (x :: N) H2.objs.size fp s H) [(s.heap.objs.size, o)] H' b := fun {H' o} hn b hb => by
    refine ⟨hn b hb, Nat.ne_of_lt (Nat.lt_of_lt_of_le (hlt b hb) hCle), fun z => ?_, .inl hb, fun y c h => (f2 b hb).2.2.2.2.1 y c (I.clos S h), fun p hp z => ?_⟩
    · rcases List.mem_cons.mp (I.stkSub b z) with q | q
      · exact (f2 b hb).2.1 q
      · exact (f2 b hb).2.2.1 q
    · have hp : p = (s.heap.objs.size, o) := by simpa using (show p ∈ [] ++ [(s.heap.objs.size, o)] from hp)
      subst hp
      exact absurd (hlt b hb) (by rw [← z]; exact Nat.lt_irrefl _)
  have pinD : ∀ {pl : List (Addr × Obj)} {σ' : St} {H' : Hp} {s' : Shared} {its : List Value} {n : Nat}, Inv (blk X sc (x :: N) H2.objs.size fp s H) pl σ' H' s' → s'.heap.get? s.heap.objs.size = some (lob its n) → H' s.heap.objs.size = none →
      Inv (blk X sc (x :: N) H2.objs.size fp s H) [(s.heap.objs.size, lob its n)] σ' H' s' := fun {pl σ' H' s' its n} J' e hn => by
    refine J'.pins_of fun p hp => ?_
    have hp : p = (s.heap.objs.size, lob its n) := by simpa using hp
    subst hp
    refine ⟨e, hn, hDC, fun z => ?_, fun v z => by cases z⟩
    obtain ⟨_, o, ho, _⟩ := I.stack.mem z
    exact absurd (Heap.lt_size ho) (Nat.lt_irrefl _)
  have IX : Inv (blk X sc (x :: N) H2.objs.size fp s H) [(s.heap.objs.size, lob [] 0)] (none :: seen σ fr) H { s with heap := h₁, toks := s.toks + ([] : List (Str × Value)).length } :=
    pinD (blk_start I S hCle f2 hlt ⟨_, hns₁⟩ old) eD (I.hok.fresh (Nat.le_refl _))
  have st₁ : tn 0 h₁ := T.keep _ _ _ st fun b _ o e => old b o e
  have loop : ∀ s₃ : Shared, s₃ = { s with heap := h₁, toks := s.toks + ([] : List (Str × Value)).length } →
      codeAny (model X.prog X.w) X.A (.compLoop (.ListComp elt [⟨.Name x px, iter, ifs, 0⟩] sc pos) 0 (.ref it) (.ref s.heap.objs.size) (blk X sc (x :: N) H2.objs.size fp s H).env)
        (RR (.ref s.heap.objs.size) H2.objs.size) s₃ := by
    rintro s₃ rfl
    refine comp_loop (fun n s' => ∃ i v0 its c ys H', Inv (blk X sc (x :: N) H2.objs.size fp s H) [(s.heap.objs.size, lob its c)] (v0 :: seen σ fr) H' s' ∧ Vals ys its ∧ tn i s'.heap ∧ (∀ b ∈ fp, H' b = none) ∧ W i n ys H') ?_ m0
      ⟨0, none, [], 0, [], H, IX, .nil, st₁, fun b hb => (f2 b hb).1, w0⟩
    rintro n s4 ⟨i, v0, its, c, ys, H4, I4, rv, st4, fr4, w4⟩
    have pD := I4.pin (s.heap.objs.size, lob its c) (List.mem_append_right _ (List.mem_singleton.mpr rfl))
    rcases turn i n ys H4 w4 with ⟨stop, hz, fin⟩ | ⟨go, hz, NN, hNN, step⟩
    · refine thn (T.done (blk X sc (x :: N) H2.objs.size fp s H) rfl rfl rfl hcalm i _ s4 _ H4 NoE I4 (fpX fr4) st4 stop) fun r s5 ⟨hr, I5⟩ => ?_
      subst hr
      obtain ⟨e5, n5, _⟩ := I5.pin (s.heap.objs.size, lob its c) (List.mem_append_right _ (List.mem_singleton.mpr rfl))
      have e5 : s5.heap.get? s.heap.objs.size = some (lob its c) := e5
      have n5 : H4 s.heap.objs.size = none := n5
      have IF : Inv X pins σ (upd H4 s.heap.objs.size (.lst ys)) s5 := I.call' (ch := fp) I5.os (Un.track I5.base n5 (Nat.le_refl _)) (HOk.track I5.hok n5 ⟨hz, its, c, rv, e5⟩) I5.bare
        fun b hb => ⟨(f2 b hb).2.2.2.1, (f2 b hb).2.1, (f2 b hb).2.2.2.2.1, (f2 b hb).2.2.2.2.2⟩
      obtain ⟨mC, nsC, _⟩ := I5.loc
      obtain ⟨oC, esC, epC, hoC, hdC, _⟩ := id nsC
      refine hRR _ _ _ s5 IF ⟨oC, hoC, ⟨mC, nsC⟩, fun v z => by rw [hdC] at z; cases z⟩ (I.fpOk hCle ?_) (fin _ n5)
      rw [upd_ne (Ne.symm hDC)]
      exact I5.free
    · refine thn (T.item (blk X sc (x :: N) H2.objs.size fp s H) rfl rfl rfl hcalm i _ s4 _ H4 NoE I4 (fpX fr4) st4 go) fun r s5 ⟨u, hr, h5⟩ => ?_
      subst hr
      refine thn h5 fun _ s6 ⟨v, H6, I6, r6, y6, st6, fr6⟩ => ?_
      have I6' := I6.pinned (fpX fr6) (T.obj _ _ st6)
      refine wpAny_assign_Name (store_ok (i := 0) I6' S.nd rfl (.inl (lookup_relabel_local S.xl)) r6 (fun s7 I7 => ?_) (.inr (lookup_relabel_local S.xl)))
      have I7 : Inv (blk X sc (x :: N) H2.objs.size fp s H) ([(s.heap.objs.size, lob its c)] ++ pinsAt fp s6.heap) (some v :: seen σ fr) H6 s7 := I7
      refine thn (hc _ _ _ _ _ s7 _ H6 _ I7 (step v H6 y6)) fun b s8 ⟨H8, I8, q8⟩ => ?_
      have atFp : ∀ {σ' : St} {H' : Hp} {s' : Shared}, Inv (blk X sc (x :: N) H2.objs.size fp s H) ([(s.heap.objs.size, lob its c)] ++ pinsAt fp s6.heap) σ' H' s' → tn (i + 1) s'.heap ∧ ∀ b ∈ fp, H' b = none := fun {σ' H' s'} J' => by
        refine ⟨T.keep _ _ _ st6 fun b hb o e => (J'.pin (b, o) (List.mem_append_right _ (List.mem_append_right _ (mem_pinsAt hb e)))).1, fun b hb => ?_⟩
        obtain ⟨o, e, _⟩ := T.obj _ _ st6 b hb
        exact (J'.pin (b, o) (List.mem_append_right _ (List.mem_append_right _ (mem_pinsAt hb e)))).2.1
      cases b with
      | false =>
        have q8 : NN ys H8 := q8
        obtain ⟨m', hm, w8⟩ := hNN _ _ q8
        obtain ⟨a1, a2⟩ := atFp I8
        exact ⟨m', hm, i + 1, some v, its, c, ys, H8, I8.unpinned, rv, a1, a2, w8⟩
      | true =>
        refine thn (he _ _ _ _ _ s8 _ H8 _ I8 q8) fun y s9 ⟨yv, H9, I9, r9, q9⟩ => ?_
        obtain ⟨m', hm, w9⟩ := hNN _ _ q9
        obtain ⟨e9, n9, _⟩ := I9.pin (s.heap.objs.size, lob its c) (List.mem_append_right _ (List.mem_append_left _ (List.mem_singleton.mpr rfl)))
        have e9 : s9.heap.get? s.heap.objs.size = some (lob its c) := e9
        have n9 : H9 s.heap.objs.size = none := n9
        obtain ⟨a1, a2⟩ := atFp I9
        have hl : ys.length = its.length := rv.length
        refine call_meets F.slot_list_append ⟨_, e9, rfl⟩ F.entry_list_append (F.args_list_append_2 _ _) (PySem.list_append s.heap.objs.size its.toArray c y (by rw [List.size_toArray]; omega)) ⟨e9, ?_⟩
        have q := PySem.IsL.update e9 (·.push y)
        have hpush : its.toArray.push y = (its ++ [y]).toArray := by simp
        rw [hpush] at q
        have kO : ∀ b o, b ≠ s.heap.objs.size → s9.heap.get? b = some o → (s9.heap.update s.heap.objs.size (Obj.mapSeq (·.push y))).get? b = some o := fun b o hb e => (Heap.get?_update_other s9.heap _ (Ne.symm hb)).trans e
        have J1 : Inv (blk X sc (x :: N) H2.objs.size fp s H) [] (some v :: seen σ fr) H9 s9 := I9.pins_of fun p hp => absurd hp (by simp)
        have J2 := J1.turned (it := s.heap.objs.size) (t' := s9.toks) kO n9 hDC (.inr (Nat.le_refl _)) (fun z cc h e => by
          obtain ⟨vv, o, ho, _⟩ := I.cell z cc (I.clos S h)
          exact absurd (Heap.lt_size ho) (by rw [e]; exact Nat.lt_irrefl _)) (fun p hp => absurd (show p ∈ ([] : List (Addr × Obj)) from hp) (by simp))
        refine ⟨m', hm, i + 1, some v, its ++ [y], _, ys ++ [yv], H9, pinD J2 q n9, rv.append (.cons r9 .nil), T.keep _ _ _ a1 fun b hb o e => kO b o (Nat.ne_of_lt (hlt b hb)) e, a2, w9⟩
  exact codeAny_compStart_list (loop _ rfl) (T.self _ 0 _ _ _ st₁ (loop _ rfl))

theorem pe_comp (S : BlkScope X.env.scope X.N sc x N fr) (hcalm : X.calm = true) (hi : PI X (.Name x px) iter wi) (hc : ∀ C ex s H, PIfs (blk X sc (x :: N) C ex s H) ifs tc) (he : ∀ C ex s H, PE (blk X sc (x :: N) C ex s H) elt te)
    (hs : ∀ v, foldedSetIterable iter X.env v = pure v := by intro _; rfl) : PE X (.ListComp elt [⟨.Name x px, iter, ifs, 0⟩] sc pos) (tComp wi fr tc te) := by
  intro pins s σ H Q I h
  rw [eval_ListComp]
  refine wpAny_comprehension_free (use := none) rfl hs (closFor (I.cells S)) S.kind S.names (thn (hi pins s σ H _ I h) fun v s1 h1 => thn h1 fun itv s2 h2 => ?_)
  obtain ⟨it, fp, tn, J, H2, e, I2, T, st2, f2, hW⟩ := h2
  subst e
  refine comp_core (RR := fun acc C => compPost (model X.prog X.w) X.A X.xe none (EP X pins σ Q) acc C) S hcalm hc he I2 T st2 f2 hW fun D C H' s' I' ⟨o, ho, ⟨m, hn⟩, hd⟩ fC q => ?_
  obtain ⟨f0, f1, f3, f4, f5, f6⟩ := fC
  exact ⟨m, hn, fun h' hsb => ⟨.ref D, H', I'.turned (t' := s'.toks) (fun b ob hb e => (hsb.2 b hb).trans e) f0 f1 f4 f5 f6, rfl, q⟩⟩

/-- y = [..] on one line: the store comes ahead of the letting go -/
theorem ps_setComp {i : Nat} {y : Str} {py spos : Pos} (S : BlkScope X.env.scope X.N sc x N fr) (hcalm : X.calm = true) (hN : X.N.Nodup) (hi' : X.N[i]? = some y) (hy : Loc X.env.scope y) (hi : PI X (.Name x px) iter wi)
    (hc : ∀ C ex s H, PIfs (blk X sc (x :: N) C ex s H) ifs tc) (he : ∀ C ex s H, PE (blk X sc (x :: N) C ex s H) elt te)
    (hsw : swapsWith (.ListComp elt [⟨.Name x px, iter, ifs, 0⟩] sc pos) (some (.Name y py)) spos.line X.env = pure true := by rfl)
    (hf : X.fn y = true ∨ X.env.scope.names.lookup y = some .local := by first | exact .inl rfl | exact .inr rfl | assumption)
    (hs : ∀ v, foldedSetIterable iter X.env v = pure v := by intro _; rfl) : PS X (.Assign [.Name y py] (.ListComp elt [⟨.Name x px, iter, ifs, 0⟩] sc pos) spos) (tAsg (tComp wi fr tc te) (gName i)) := by
  intro pins s σ H D I h
  rw [exec_Assign_Name_used _ _ _ _ hsw]
  refine wpAny_bind (wpAny_standAt (wpAny_bind ?_))
  show wpAny _ X.A (do let _ ← comprehension (.ListComp elt [⟨.Name x px, iter, ifs, 0⟩] sc pos) sc X.env _ (newList []) false (eval iter X.env) (some (assign (.Name y py) X.env))) _ _ s
  refine wpAny_bind (wpAny_mono (wpAny_comprehension_free (use := some (assign (.Name y py) X.env)) (Q := fun _ s' => SP X pins D .next s') rfl hs (closFor (I.cells S)) S.kind S.names
    (thn (hi pins s σ H _ I h) fun v s1 h1 => thn h1 fun itv s2 h2 => ?_)) (fun _ s' hq => wpAny_pure (wpAny_pure hq)) fun _ _ e => e)
  obtain ⟨it, fp, tn, J, H2, e, I2, T, st2, f2, hW⟩ := h2
  subst e
  refine comp_core (RR := fun acc C => compPost (model X.prog X.w) X.A X.xe (some (assign (.Name y py) X.env)) (fun _ s' => SP X pins D .next s') acc C) (Q := fun v H1 => gName i v σ H1 D.nx) S hcalm hc he I2 T st2 f2 hW fun A C H' s' I' ⟨o, ho, ⟨m, hn⟩, hd⟩ fC q => ?_
  obtain ⟨f0, f1, f3, f4, f5, f6⟩ := fC
  have IP : Inv X (pins ++ [(C, o)]) σ H' s' := I'.pins_of fun p hp => by
    rcases List.mem_append.mp hp with z | z
    · exact I'.pin p (List.mem_append_right _ z)
    · have z : p = (C, o) := by simpa using z
      subst z
      exact ⟨ho, f0, f1, f3, hd⟩
  show wpAny _ X.A (assign (.Name y py) X.env (.ref A)) _ _ s'
  refine wpAny_assign_Name (store_ok (v := .ref A) IP hN hi' hy rfl (fun s5 I5 => ?_) hf)
  have e5 := (I5.pin (C, o) (List.mem_append_right _ (List.mem_append_right _ (List.mem_singleton.mpr rfl)))).1
  refine ⟨m, hn.at' fun ob e => ?_, fun h' hsb => ⟨_, H', I5.unpinned.turned (t' := s5.toks) (fun b ob hb e => (hsb.2 b hb).trans e) f0 f1 f4 f5 f6, q⟩⟩
  rw [ho] at e
  cases e
  exact e5
end

/-! ### the forms one uses -/
/-- over 0 .. n - 1 (or lo ..) -/
theorem comp_range {lo : Int} {n : Nat} {tc : TT} {te : TE} {σ : St} {fr : List Nat} {H : Hp} {Q : VK} (Pv : Nat → List V → Hp → Prop) (h0 : Pv 0 [] H) (hz : ∀ i ys H, Pv i ys H → ys.length ≤ i) (hn : n ≤ sizeLine)
    (hs : ∀ (i : Nat) (ys : List V) (H : Hp), i < n → Pv i ys H → tc (some (.int (lo + i)) :: seen σ fr) H fun b H2 => if b = true then te (some (.int (lo + i)) :: seen σ fr) H2 fun y H3 => Pv (i + 1) (ys ++ [y]) H3 else Pv (i + 1) ys H2)
    (hd : ∀ ys H, Pv n ys H → ∀ p, H p = none → Q (.ref p) (upd H p (.lst ys))) : tCompK fr tc te σ Q (Itr lo n) H := by
  refine ⟨fun i m ys H => m = n - i ∧ i ≤ n ∧ Pv i ys H, ⟨n, by simp, Nat.zero_le _, h0⟩, ?_⟩
  rintro i m ys H ⟨rfl, hi, p⟩
  have hl := hz i ys H p
  by_cases hlt : i < n
  · refine .inr ⟨hlt, by omega, Pv (i + 1), fun ys' H' q => ⟨n - (i + 1), by omega, rfl, hlt, q⟩, fun v H' y => ?_⟩
    obtain ⟨e, y⟩ := y
    subst e y
    exact hs i ys _ hlt p
  · have e : i = n := by omega
    subst e
    exact .inl ⟨Nat.le_refl _, by omega, hd ys H p⟩
/-- over a list that stays as it is -/
theorem comp_list {K : PySem.W.Frag} {a : Addr} {xs : List V} {tc : TT} {te : TE} {σ : St} {fr : List Nat} {H : Hp} {Q : VK} (Pv : Nat → List V → Hp → Prop) (h0 : Pv 0 [] H) (hz : ∀ i ys H, Pv i ys H → ys.length ≤ i) (hn : xs.length ≤ sizeLine)
    (hl : ∀ i ys H, i ≤ xs.length → Pv i ys H → SqL K H a xs)
    (hs : ∀ (i : Nat) (x : V) (ys : List V) (H : Hp), xs[i]? = some x → Pv i ys H → tc (some x :: seen σ fr) H fun b H2 => if b = true then te (some x :: seen σ fr) H2 fun y H3 => Pv (i + 1) (ys ++ [y]) H3 else Pv (i + 1) ys H2)
    (hd : ∀ ys H, Pv xs.length ys H → ∀ p, H p = none → Q (.ref p) (upd H p (.lst ys))) : tCompK fr tc te σ Q (Itl K a) H := by
  refine ⟨fun i m ys H => m = xs.length - i ∧ i ≤ xs.length ∧ Pv i ys H, ⟨xs.length, by simp, Nat.zero_le _, h0⟩, ?_⟩
  rintro i m ys H ⟨rfl, hi, p⟩
  have q0 := hl i ys H hi p
  have hl := hz i ys H p
  by_cases hlt : i < xs.length
  · refine .inr ⟨⟨xs, xs[i], q0, by simp [hlt]⟩, by omega, Pv (i + 1), fun ys' H' q => ⟨xs.length - (i + 1), by omega, rfl, hlt, q⟩, fun v H' y => ?_⟩
    obtain ⟨e, y⟩ := y
    subst e
    exact hs i v ys _ (y xs q0) p
  · have e : i = xs.length := by omega
    subst e
    exact .inl ⟨⟨xs, q0, Nat.le_refl _⟩, by omega, hd ys H p⟩
end L2

/-! MORE RULES over the layer: enumerate, sorted, list(range), isinstance, == of tuples, % by any divisor, defs with defaults -/
namespace L2
open PySem PySem.Spec PyProof.Rows

section
variable {X : Cx} {pins : List (Addr × Obj)} {σ : St} {H : Hp} {s : Shared}
/-- two records of ours have turned, a new object lies behind the heap -/
theorem Inv.turned2 {e it : Addr} {h' : Heap} {t' : Nat} {o : HO} (I : Inv X pins σ H s) (hf : ∀ b ∈ [e, it], FpOk X pins H b)
    (k : ∀ b ob, b ≠ e → b ≠ it → s.heap.get? b = some ob → h'.get? b = some ob) (new : ObjOk X.prog X.w (upd H s.heap.objs.size o) h' s.heap.objs.size o) :
    Inv X pins σ (upd H s.heap.objs.size o) { s with heap := h', toks := t' } := by
  obtain ⟨e0, e1, _, e3, e4, e5⟩ := hf e (by simp)
  obtain ⟨i0, i1, _, i3, i4, i5⟩ := hf it (by simp)
  have ne : ∀ b ob, s.heap.get? b = some ob → b ≠ s.heap.objs.size := fun b ob q => Nat.ne_of_lt (Heap.lt_size q)
  have hn : H s.heap.objs.size = none := I.hok.fresh (Nat.le_refl _)
  have notin : ∀ b, b ∉ [e, it] → b ≠ e ∧ b ≠ it := fun b hb => ⟨fun z => hb (by simp [z]), fun z => hb (by simp [z])⟩
  refine I.step (g' := s.gens) (d' := s.drawn) (ch := [e, it]) (fun b hb => ?_) (fun b ob _ _ hc q _ => k b ob (notin b hc).1 (notin b hc).2 q) (fun b ob _ _ hc q _ => ⟨ob.slots, k b ob (notin b hc).1 (notin b hc).2 q⟩)
    (fun b ob _ q n => by rw [upd_ne (ne b ob q)]; exact n) (fun b ob hc q => ⟨ob, k b ob (notin b hc).1 (notin b hc).2 q⟩) (fun b xs q => by rw [upd_ne (ne_of_none q hn)]; exact q)
    (fun b ob u q => by rw [upd_ne (ne_of_none q hn)]; exact q) (fun b ps q => ⟨#[], by rw [upd_ne (ne_of_none q hn), q]; simp⟩) (fun m hm => ?_) (fun b u q => ?_) I.bare
  · rcases List.mem_cons.mp hb with z | z
    · subst z; exact ⟨e3, e1, e4, e5⟩
    · have z : b = it := by simpa using z
      subst z; exact ⟨i3, i1, i4, i5⟩
  · obtain ⟨ob, es, ep, ho, r⟩ := hm
    exact ⟨ob, es, ep, k _ ob (Ne.symm e1) (Ne.symm i1) ho, r⟩
  · by_cases hb : b = s.heap.objs.size
    · subst hb; rw [upd_same] at q; cases q; exact new
    · rw [upd_ne hb] at q
      have nfp : ∀ c v, H c = some v → c ≠ e ∧ c ≠ it := fun c v z => ⟨ne_of_none z e0, ne_of_none z i0⟩
      refine (I.hok b u q).stay (fun c v hc z => ?_) (fun c z => by rw [upd_ne (ne_of_none z hn)]; exact z) fun c xs z => by rw [upd_ne (ne_of_none z hn)]; exact z
      rcases hc with y | y
      · subst y; exact k _ v (nfp _ _ q).1 (nfp _ _ q).2 z
      · exact k _ v (nfp _ _ y).1 (nfp _ _ y).2 z
end

section
variable {P : Program} {w : World} {H : Hp} {h : Heap} {a : Addr} {o : HO}
theorem ObjOk.has (x : ObjOk P w H h a o) : ∃ ob, h.get? a = some ob := by
  cases o with
  | lst xs => obtain ⟨_, _, _, _, e⟩ := x; exact ⟨_, e⟩
  | tup xs => obtain ⟨_, _, _, ob, e, _⟩ := x; exact ⟨_, e⟩
  | dK kvs => obtain ⟨_, _, _, _, ob, _, _, e, _⟩ := x; exact ⟨_, e⟩
  | dT kvs => obtain ⟨_, _, _, _, ob, _, _, e, _⟩ := x; exact ⟨_, e⟩
  | set S n => obtain ⟨ob, _, _, _, e, _⟩ := x; exact ⟨_, e⟩
  | ins C dx fs => obtain ⟨_, _, _, e, _⟩ := x; exact ⟨_, e⟩
  | own y => exact x
  | xd fs => obtain ⟨_, ⟨_, _, _, e, _⟩, _⟩ := x; exact ⟨_, e⟩
  | rng lo hi => obtain ⟨_, _, _, e⟩ := x; exact ⟨_, e⟩
  | frz ob u => obtain ⟨e, _⟩ := x; exact ⟨_, e⟩
  | tbl ps => exact ⟨_, x⟩
  | met f y => exact ⟨_, x⟩
  | ext φ => obtain ⟨_, e, _⟩ := x; exact e
theorem HOk.freeAt (x : HOk P w H h) (e : h.get? a = none) : H a = none := by
  cases q : H a with
  | none => rfl
  | some u =>
    obtain ⟨ob, z⟩ := (x a u q).has
    rw [z] at e; cases e
end
section
variable {X : Cx} {pins : List (Addr × Obj)} {σ : St} {H : Hp} {s : Shared}
/-- a new object laid and tracked, where nothing lay -/
theorem Inv.laidN {a : Addr} {o : HO} {t' : Nat} {h' : Heap} (I : Inv X pins σ H s) (k : ∀ b u, s.heap.get? b = some u → h'.get? b = some u) (ha : s.heap.get? a = none) (new : ObjOk X.prog X.w (upd H a o) h' a o) :
    Inv X pins σ (upd H a o) { s with heap := h', toks := t' } := by
  have hn := I.hok.freeAt ha
  have ne : ∀ b u, s.heap.get? b = some u → b ≠ a := fun b u q z => by rw [z, ha] at q; cases q
  refine I.un ⟨fun b u q _ _ _ => k b u q, fun b u q _ _ _ => ⟨u.slots, k b u q⟩, fun b u q n _ => by rw [upd_ne (ne b u q)]; exact n, fun b u q _ => ⟨u, k b u q⟩, fun b xs q => by rw [upd_ne (ne_of_none q hn)]; exact q,
    fun b u xs q => by rw [upd_ne (ne_of_none q hn)]; exact q, fun b ps q => ⟨#[], by rw [upd_ne (ne_of_none q hn), q]; simp⟩⟩ fun b u q => ?_
  by_cases hb : b = a
  · subst hb; rw [upd_same] at q; cases q; exact new
  · rw [upd_ne hb] at q
    exact (I.hok b u q).stay (fun c v _ z => k c v z) (fun c z => by rw [upd_ne (ne_of_none z hn)]; exact z) fun c xs z => by rw [upd_ne (ne_of_none z hn)]; exact z
end

/-! ### enumerate(xs), xs a tracked list -/
def Ite (a : Addr) : It :=
  ⟨fun i H => ∃ xs x, H a = some (.lst xs) ∧ xs[i]? = some x,
   fun i H v H' => ∃ p x, H p = none ∧ v = .ref p ∧ H' = upd H p (.tup [.int (i : Int), x]) ∧ ∀ xs, H a = some (.lst xs) → xs[i]? = some x,
   fun i H => ∃ xs, H a = some (.lst xs) ∧ xs.length ≤ i⟩
theorem turn_enum {P : Program} {w : World} {K : PySem.W.Frag} {elts : List Expr} {x1} {pos : Pos} (a e it : Addr) (hne : e ≠ it) :
    Turn P w K (.Tuple elts x1 pos) (Ite a) [e, it] e (fun i h => ∃ old, IsEnum h e it ((i : Nat) : Int) old ∧ h.IsListIter it a i) where
  mem := by simp
  obj := fun i h st b hb => by
    obtain ⟨old, he, o, ho, hc, hd⟩ := st
    rcases List.mem_cons.mp hb with z | z
    · subst z; exact ⟨_, he, fun v z => by cases z⟩
    · have z : b = it := by simpa using z
      subst z; exact ⟨o, ho, fun v z => by rw [hd] at z; cases z⟩
  keep := fun i h h' ⟨old, he, hit⟩ k => ⟨old, k e (by simp) _ he, hit.at fun o q => k it (by simp) o q⟩
  item := by
    intro X hP hw hK hc i pins s σ H E I hf st hg
    subst hP hw hK
    obtain ⟨old, he, hit⟩ := st
    obtain ⟨xs, x, hq, hx⟩ := hg
    obtain ⟨its, rv, p, hz⟩ := I.list (SqL.of hq)
    obtain ⟨u, hu, ru⟩ := rv.get hx
    refine wpAny_pyNext_enum_item he hit p.isList (x := u) (by simpa using hu) hne fun h1 heo hit1 ht1 hz1 hk1 => ⟨_, rfl, ?_⟩
    refine wpAny_letOwnedTupleGo_enum heo fun h2 he2 hs2 => ?_
    have hs2 : Heap.SameBut e h1 h2 := hs2
    have heH : e < s.heap.objs.size := Heap.lt_size he
    have hn : H s.heap.objs.size = none := I.hok.fresh (Nat.le_refl _)
    have ht2 : h2.get? s.heap.objs.size = some { cls := .type "tuple", data := .seq #[.int i s.toks, u] } := (hs2.2 _ (Nat.ne_of_gt heH)).trans ht1
    have I2 : Inv X pins σ (upd H s.heap.objs.size (.tup [.int (i : Int), x])) { s with heap := h2, toks := s.toks + 1 } := by
      refine I.turned2 hf (fun b ob h1' h2' q => (hs2.2 b h1').trans (hk1 b ob h1' h2' q)) ?_
      exact ⟨by rw [sizeLine_eq]; simp, [.int i s.toks, u], .cons ⟨_, rfl⟩ (.cons ru .nil), ⟨_, ht2, rfl, 0, rfl⟩⟩
    refine ⟨.ref s.heap.objs.size, _, I2, rfl, ⟨_, x, hn, rfl, rfl, fun ys hy => ?_⟩, ⟨u, ?_, ?_⟩, fun b hb => ?_⟩
    · rw [hq] at hy; cases hy; exact hx
    · have : ((i + 1 : Nat) : Int) = (i : Int) + 1 := by push_cast; rfl
      rw [this]; exact he2
    · exact hit1.extBut hs2.extBut (Ne.symm hne)
    · rw [upd_ne]
      · exact (hf b hb).1
      · rcases List.mem_cons.mp hb with z | z
        · subst z; exact Nat.ne_of_lt heH
        · have z : b = it := by simpa using z
          subst z
          obtain ⟨o, ho, _⟩ := hit
          exact Nat.ne_of_lt (Heap.lt_size ho)
  done := by
    intro X hP hw hK hc i pins s σ H E I hf st hg
    subst hP hw hK
    obtain ⟨old, he, hit⟩ := st
    obtain ⟨xs, hq, hx⟩ := hg
    obtain ⟨its, rv, p, hz⟩ := I.list (SqL.of hq)
    obtain ⟨f0, f1, f2, f3, f4, f5⟩ := hf it (by simp)
    have hl := rv.length
    exact wpAny_pyNext_enum_end (I.ok.hd hc) he hit p.isList (by simp; omega) fun h' eb => ⟨rfl, I.turned (t' := s.toks) (fun b o hb e => eb b o hb e) f0 f1 f3 f4 f5⟩
  self := fun _ _ _ _ _ ⟨_, he, _⟩ h => wpAny_pyIter_enum he h

section
variable {X : Cx}
def iEnum (ta : TA) : TI := fun σ H R => ta σ H fun vs H1 => ∃ a xs, vs = [.ref a] ∧ H1 a = some (.lst xs) ∧ R (Ite a) H1
theorem pi_enum {elts : List Expr} {x1} {tpos : Pos} {l : Expr} {ta : TA} {p pos : Pos} (hg : Gl X "enumerate") (hm : X.mg "enumerate" = none) (ha : PA X [l] ta) (hs : starEach [l] X.env = [(false, eval l X.env)] := by rfl) :
    PI X (.Tuple elts x1 tpos) (.Call (.Name "enumerate" p) [l] [] pos) (iEnum ta) := by
  intro pins s σ H R I h
  refine Call_ (ld_blt I hg hm boot_enumerate (PyProof.Rows.callWith_type1 (thn (ha pos pins s σ H _ I h) fun us s1 ⟨vs, H1, I1, r1, q1⟩ => ?_) hs rfl))
  obtain ⟨a, xs, e, hq, q⟩ := q1
  subst e
  obtain ⟨u, rfl, ru⟩ := vals1 r1
  cases ru
  obtain ⟨z, its, n, rv, eo⟩ := I1.hok a _ hq
  refine call_enumerate_1 eo fun h' he hit hz hk => wpAny_pyIter_enum he ?_
  have I2 : Inv X pins σ H1 { s1 with heap := h' } := I1.kept (t' := s1.toks) hk
  refine ⟨_, [s1.heap.objs.size + 1, s1.heap.objs.size], _, _, H1, rfl, I2, turn_enum a _ _ (Nat.succ_ne_self _), ⟨.none, he, hit⟩, fun b hb => ?_, q⟩
  rcases List.mem_cons.mp hb with z | z
  · subst z; exact I1.fpOk (Nat.le_succ _) (I1.hok.fresh (Nat.le_succ _))
  · have z : b = s1.heap.objs.size := by simpa using z
    subst z; exact I1.fpOk (Nat.le_refl _) (I1.hok.fresh (Nat.le_refl _))
end
theorem for_enum {a : Addr} {xs : List V} {g : TG} {tb : TS} {D : Ends} {σ : St} {H : Hp} (Pv : Nat → St → Hp → Prop) (h0 : Pv 0 σ H) (hl : ∀ i σ H, i ≤ xs.length → Pv i σ H → H a = some (.lst xs))
    (hs : ∀ i x σ H p, xs[i]? = some x → Pv i σ H → H p = none → g (.ref p) σ (upd H p (.tup [.int (i : Int), x])) fun σ2 H2 => tb { D with nx := Pv (i + 1), ct := Pv (i + 1), bk := D.nx } σ2 H2) (hd : ∀ σ H, Pv xs.length σ H → D.nx σ H) :
    ∃ W : Nat → Nat → St → Hp → Prop, (∃ m, W 0 m σ H) ∧ ∀ i m σ H, W i m σ H →
      ((Ite a).stop i H ∧ D.nx σ H) ∨ ((Ite a).go i H ∧ ∃ N : St → Hp → Prop, (∀ σ' H', N σ' H' → ∃ m', m' < m ∧ W (i + 1) m' σ' H') ∧ ∀ x H', (Ite a).yld i H x H' → g x σ H' fun σ2 H2 => tb { D with nx := N, ct := N, bk := D.nx } σ2 H2) := by
  refine ⟨fun i m σ H => m = xs.length - i ∧ i ≤ xs.length ∧ Pv i σ H, ⟨xs.length, by simp, Nat.zero_le _, h0⟩, ?_⟩
  rintro i m σ H ⟨rfl, hi, p⟩
  have q := hl i σ H hi p
  by_cases hlt : i < xs.length
  · refine .inr ⟨⟨xs, xs[i], q, by simp [hlt]⟩, Pv (i + 1), fun σ' H' p' => ⟨xs.length - (i + 1), by omega, rfl, hlt, p'⟩, fun v H' y => ?_⟩
    obtain ⟨pp, x, hp, e1, e2, hx⟩ := y
    subst e1 e2
    exact hs i x σ H pp (hx xs q) p hp
  · have e : i = xs.length := by omega
    subst e
    exact .inl ⟨⟨xs, q, Nat.le_refl _⟩, hd σ H p⟩
/-- a, b = the pair that enumerate hands out -/
def gPair (i j : Nat) : TG := fun v σ H Q => ∃ p x y, v = .ref p ∧ H p = some (.tup [x, y]) ∧ Q ((σ.set i (some x)).set j (some y)) H
theorem pg_pair {X : Cx} {i j : Nat} {x y : Str} {px py pos : Pos} {k : Nat} (hc : X.calm = true) (hN : X.N.Nodup) (hi : X.N[i]? = some x) (hj : X.N[j]? = some y) (hx : Loc X.env.scope x) (hy : Loc X.env.scope y)
    (hfx : X.fn x = true ∨ X.env.scope.names.lookup x = some .local := by first | exact .inl rfl | exact .inr rfl | assumption) (hfy : X.fn y = true ∨ X.env.scope.names.lookup y = some .local := by first | exact .inl rfl | exact .inr rfl | assumption) :
    PG X (.Tuple [.Name x px, .Name y py] k pos) (gPair i j) := by
  intro pins s σ H v u Q I r h
  obtain ⟨p, a, b, rfl, hp, q⟩ := h
  have h := pg_tup (pos := pos) (k := k) (n := 2) hc (pgs_cons (pg_name (pos := px) (i := i) hN hi hx hfx) (pgs_cons (pg_name (pos := py) (i := j) hN hj hy hfy) pgs_nil))
  exact h pins s σ H (.ref p) u Q I r ⟨p, [a, b], rfl, SqT.of hp, rfl, a, [b], rfl, b, [], rfl, rfl, q⟩

/-! ### range(a, b) as a value, list(range) -/
section
variable {X : Cx}
def intsUp (lo : Int) (n : Nat) : List Int := (List.range n).map fun (k : Nat) => lo + (k : Int)
theorem intsUp_length (lo : Int) (n : Nat) : (intsUp lo n).length = n := by simp [intsUp]
theorem intsUp_get {lo : Int} {n i : Nat} (h : i < n) : (intsUp lo n)[i]? = some (lo + i) := by simp [intsUp, h]
/-! ### sorted, of fewer than 64 intsUp -/
theorem vals_intsV : ∀ {us : List Value} {ns : List Int}, IntsAre us ns → Vals (ns.map V.int) us
  | _, _, .nil => .nil
  | _, _, .cons n t h => .cons ⟨t, rfl⟩ (vals_intsV h)
theorem intsAre_at : ∀ {us : List Value} {ns : List Int}, us.length = ns.length → (∀ (i : Nat) (n : Int) (u : Value), ns[i]? = some n → us[i]? = some u → ∃ t, u = Value.int n t) → IntsAre us ns
  | [], [], _, _ => .nil
  | [], _ :: _, h, _ => by simp at h
  | _ :: _, [], h, _ => by simp at h
  | u :: us, n :: ns, h, f => by
    obtain ⟨t, e⟩ := f 0 n u rfl rfl
    subst e
    exact .cons n t (intsAre_at (by simpa using h) fun i y v h1 h2 => f (i + 1) y v (by simpa using h1) (by simpa using h2))
theorem call_sortedD (hc : X.A.handled = none) : CallR X (.builtin "sorted") (fun xs H Q => ∃ (d : Addr) (kvs : List (Key × V)) (ns : List Int), xs = [.ref d] ∧ H d = some (.dK kvs) ∧ kvs.map (·.1) = ns.map (fun n => (Sum.inl n : Key)) ∧ ns.length < 64 ∧
    ∀ (p : Addr) (ns' : List Int), H p = none → ns'.Perm ns → ns'.Pairwise (· ≤ ·) → Q (.ref p) (upd H p (.lst (ns'.map V.int)))) := by
  intro pins s σ H xs us Q I r h
  obtain ⟨d, kvs, ns, rfl, hd, hk, h64, q⟩ := h
  obtain ⟨u, rfl, ru⟩ := vals1 r
  cases ru
  obtain ⟨hz, hS, vs, rel, dd⟩ := dk_of I.hok hd
  obtain ⟨ep, hat⟩ := dd.dictAt
  have hlen : kvs.length = vs.length := rel.length
  have hkl : kvs.length = ns.length := by have := congrArg List.length hk; simpa using this
  have hks : vs.map (·.1) = ns.map (fun n => (Sum.inl n : Key)) := by rw [← hk]; exact (KV.keys rel).symm
  refine Calls.call_function_entry kind_sorted plain_sorted entry_sorted (args_sorted1 _) ?_
  unfold Builtin.«sorted»
  refine wpAny_bind (m := checkCount "sorted" 1 1 _) (wpAny_pure ?_)
  refine wpAny_bind (PySem.W.kdu_collect (A := X.A.in1) (PySem.W.kdl_dict (knd := mixKind X.prog X.w) (kvs := vs) (ep := ep) hS) hc hat (by rw [← hlen]; exact hz) fun h' tk acc hkp hacc => ?_)
  have hal : acc.toList.length = ns.length := by rw [Array.length_toList, hacc.1, ← hlen, hkl]
  have hI : IntsAre acc.toList ns := intsAre_at hal fun i n v e1 e2 => by
    obtain ⟨k, x, e3, e4⟩ := hacc.2 i v (by rw [← Array.getElem?_toList]; exact e2)
    have e5 : (vs.map (·.1))[i]? = some k := by rw [List.getElem?_map, e3]; rfl
    rw [hks, List.getElem?_map, e1] at e5
    have e5 : (Sum.inl n : Key) = k := Option.some.inj e5
    subst e5
    have e4 : Value.isInt n v = true := e4
    obtain ⟨t, e⟩ := Value.isInt_shape e4
    exact ⟨t, e⟩
  refine wpAny_bind (wpAny_newList ?_ (by rw [hal, sizeLine_eq]; omega))
  have hoL : (h'.push (seqObj "list" acc.toList.toArray 0)).get? h'.objs.size = some (seqObj "list" acc.toList.toArray 0) := Heap.get?_push_size _ rfl
  refine wpAny_bind (wpAny_holding (wpAny_call_entry slot_list_sort ⟨_, hoL, rfl⟩ entry_list_sort (list_sort_tree (s := { s with heap := h'.push (seqObj "list" acc.toList.toArray 0), toks := tk }) hoL hI (by omega) fun out ns' a1 a2 a3 => ⟨_, rfl, ?_⟩) (args_list_sort _)))
  refine wpAny_pure ⟨_, rfl, ?_⟩
  obtain ⟨e, eo⟩ := sortedHeap_at (out := out) hoL
  have hfree : s.heap.get? h'.objs.size = none := by
    cases z : s.heap.get? h'.objs.size with
    | none => rfl
    | some o0 => exact absurd (Heap.lt_size (hkp _ o0 z)) (Nat.lt_irrefl _)
  refine ⟨.ref h'.objs.size, _, I.laidN (t' := tk) (o := .lst (ns'.map V.int)) (fun b ob q => ?_) hfree ?_, rfl, q _ ns' (I.hok.freeAt hfree) a2 a3⟩
  · rw [sortedHeap_old (Nat.ne_of_lt (Heap.lt_size (hkp b ob q))) (by rw [size_push']; exact Nat.lt_succ_of_lt (Heap.lt_size (hkp b ob q)))]
    exact Heap.get?_push_of_some _ (hkp b ob q)
  · exact ⟨by rw [List.length_map, a2.length_eq, sizeLine_eq]; omega, out.toList, e, vals_intsV a1, by simpa using eo⟩
end
end L2
namespace L2
open PySem PySem.Spec PyProof.Rows
/-! ### isinstance(x, T), T a built-in type -/
section
variable {X : Cx}
theorem call_isi : CallR X (.builtin "isinstance") (fun xs H Q => ∃ x T t b, xs = [x, .ty T] ∧ TyOf X.K H x t ∧ PySem.W.kitOne X.K t (.type T) = some b ∧ Q (.bl b) H) := by
  intro pins s σ H xs us Q I r h
  obtain ⟨x, T, t, b, rfl, ty, e, q⟩ := h
  obtain ⟨u, w', rfl, rx, rT⟩ := vals2 r
  cases rT
  exact isinst_ok I rx ty e fun tk => ⟨.bl b, H, I.tok tk, rfl, q⟩
end
/-! ### defs with defaults -/
structure FunD (K : PySem.W.Frag) (x qual : Str) (st : Stmt) (f : Addr) (fd : FuncData) (ds : List Value) : Prop where
  ex : ∃ (oc : Value) (od : Option Addr) (T : Addr) (kV doc pm : Value) (an : Option Addr) (cdv ct : Value) (osl : Array (Option Value)) (oT : Obj) (n : Nat),
    fd = PySem.W.fnOf x qual (defArgs st) (defBody st) (defScope st) (.ref T) kV doc pm an cdv ct ∧ K.lookup f = some ⟨oc, od, .func fd, osl⟩ ∧ PySem.W.codeIn K cdv qual = true ∧ K.lookup T = some oT ∧ oT.data = .seq ds.toArray n
  kp : PySem.W.keepIn K (.ref f) = true
section
variable {P : Program} {w : World} {K : PySem.W.Frag} {mg : Str → Option Value} {base : Heap}
theorem FunD.ok {x qual : Str} {st : Stmt} {f : Addr} {fd : FuncData} {ds : List Value} {N ps : List Str} {k : Nat} {sp : Sp} (F : FunD K x qual st f fd ds) (S : FnScope N ps (defScope st)) (len : ∀ vs H Q E, sp vs H Q E → vs.length = ps.length)
    (hbody : ∀ (cdv : Value) (A : Around) (outer : List Env) (s : Shared) (H : Hp) (vs : List V) (Q : VK) (E : XK), Room k (A.deeper (envOfC qual (defScope st) s.heap.objs.size f cdv)) → sp vs H Q E →
      ∃ t, PSs (cxOf CX0 P w K mg base N qual (defScope st) f cdv A outer s H E).nox (defBody st) t ∧ t { nx := fun _ H' => Q .non H', rt := Q } (start N vs) H) : FnOk P w K mg base CX0 (k + 1) f fd ps sp := by
  obtain ⟨oc, od, T, kV, doc, pm, an, cdv, ct, osl, oT, n, rfl, lk, hcd, _⟩ := F.ex
  refine fn_of lk hcd S len fun A outer s H vs Q E hr hsp => ?_
  obtain ⟨t, h, q⟩ := hbody cdv A outer s H vs Q E hr hsp
  exact ⟨t, h.nox, q⟩
/-- the arguments bind, the last ones by defaults es (the end of ds) -/
theorem FunD.binds {x qual : Str} {st : Stmt} {f : Addr} {fd : FuncData} {ds es : List Value} {ps : List Str} (F : FunD K x qual st f fd ds)
    (h : ∀ (T : Addr) (kV doc pm : Value) (an : Option Addr) (cdv ct : Value) (us : List Value), (us ++ es).length = ps.length → ∃ k : Option (Array Value) → Sem (List (Str × Value)),
      bindArgs (PySem.W.fnOf x qual (defArgs st) (defBody st) (defScope st) (.ref T) kV doc pm an cdv ct) ⟨us, []⟩ = seqItems? (.ref T) >>= k ∧ k (some ds.toArray) = pure (ps.zip (us ++ es))) : Binds K fd ps es := by
  obtain ⟨oc, od, T, kV, doc, pm, an, cdv, ct, osl, oT, n, rfl, lk, hcd, hT, hd⟩ := F.ex
  intro s us KX hl
  obtain ⟨k, h1, h2⟩ := h T kV doc pm an cdv ct us hl
  exact BindsTo.of_defaults rfl (KX _ _ hT) hd h1 h2
theorem funD_mk {x qual : Str} {st : Stmt} {f T : Addr} {oc : Value} {od an : Option Addr} {osl : Array (Option Value)} {kV doc pm cdv ct : Value} {oT : Obj} {ds : List Value} {n : Nat} (l : K.lookup f = some ⟨oc, od, .func (PySem.W.fnOf x qual (defArgs st) (defBody st) (defScope st) (.ref T) kV doc pm an cdv ct), osl⟩)
    (c : PySem.W.codeIn K cdv qual = true) (k : PySem.W.keepIn K (.ref f) = true) (hT : K.lookup T = some oT) (hd : oT.data = .seq ds.toArray n) : FunD K x qual st f (PySem.W.fnOf x qual (defArgs st) (defBody st) (defScope st) (.ref T) kV doc pm an cdv ct) ds := ⟨⟨oc, od, T, kV, doc, pm, an, cdv, ct, osl, oT, n, rfl, l, c, hT, hd⟩, k⟩
end
end L2

/-! a dict of the text's own (never changed): d.get(k, x) -/
namespace L2
open PySem PySem.Spec PyProof.Rows
structure KDict (P : Program) (w : World) (K : PySem.W.Frag) (a : Addr) (kvs : List (Key × V)) : Prop where
  at_ : ∃ vs, KV kvs vs ∧ ∀ h : Heap, K.In h → h.DictOf (mixKind P w) a vs
  ns : (a == sysModules) = false
def tKGet2 (kvs : List (Key × V)) (ty tx : TE) : TE := fun σ H Q => ty σ H fun y H2 => tx σ H2 fun z H3 => ∃ k, y = kV k ∧ Q ((valV kvs k).getD z) H3
theorem pe_kget2 {X : Cx} {a : Addr} {kvs : List (Key × V)} {g : Str} {p apos cpos : Pos} {e f : Expr} {ty tx : TE} (D : KDict X.prog X.w X.K a kvs) (hg : Gl X g) (hm : X.mg g = some (.ref a)) (he : PE X e ty) (hf : PE X f tx) (m : M2 X (.Name g p) "get" apos e f cpos)
    (hd : (g == ("__debug__" : Str)) = false := by decide) : PE X (.Call (.Attribute (.Name g p) "get" apos) [e, f] [] cpos) (tKGet2 kvs ty tx) := by
  intro pins s σ H Q I h
  obtain ⟨vs, rel, at_⟩ := D.at_
  refine wpAny_Call_method m.base m.few m.line PySem.F.plainAttrs_dict PySem.F.slot_dict_get PySem.F.type_dict_get (ld_glob I hg hm ?_ hd)
  have dd := at_ _ I.kIn
  refine ⟨dd.typeIs, fun b q => ?_, ?_⟩
  · cases q
    obtain ⟨ob, _, _, h1, h2, _⟩ := dd
    exact ⟨ob, h1, h2.2.1⟩
  · rw [m.trees]
    refine Calls.callWith_builtin rfl (Calls.evalArgs_plain (Calls.spliced_cons (thn (he pins s σ H _ I h) fun iv s2 ⟨y, H2, I2, ry, q2⟩ =>
      Calls.spliced_cons (thn (hf pins s2 σ H2 _ I2 q2) fun fv s3 ⟨z, H3, I3, rz, k, ey, q3⟩ => Calls.spliced_nil ?_))))
    subst ey
    have d3 := at_ _ I3.kIn
    refine call_meetsIn PySem.F.slot_dict_get d3.typeIs PySem.F.entry_dict_get (PySem.F.args_dict_get_3 _ _ _) (meets_dict_get_default (mixKind X.prog X.w) a (kV_is ry) D.ns fv) ⟨_, d3.mapOf, ?_⟩
    exact ⟨_, H3, I3.tok _, (rel.val k).getD rz, q3⟩
/-- a dict of two texts and ints, as the top has written it -/
theorem kdict2 {P : Program} {w : World} {K : PySem.W.Frag} {a : Addr} {ep : Nat} {h1 h2 : Int} {x1 x2 : Str} {t1 t2 u1 u2 : Tok} {i1 i2 : Int} (lk : K.lookup a = some ⟨.type "dict", none, .dict #[⟨h1, .str x1 t1, .int i1 u1⟩, ⟨h2, .str x2 t2, .int i2 u2⟩] ep, #[]⟩)
    (e1 : h1 = hashStr w x1) (e2 : h2 = hashStr w x2) (ne : x1 ≠ x2) (ns : (a == sysModules) = false) : KDict P w K a [(Sum.inr x1, .int i1), (Sum.inr x2, .int i2)] := by
  refine ⟨⟨[(Sum.inr x1, .int i1 u1), (Sum.inr x2, .int i2 u2)], .cons ⟨rfl, _, rfl⟩ (.cons ⟨rfl, _, rfl⟩ .nil), fun h KX => ?_⟩, ns⟩
  refine ⟨_, _, ep, KX _ _ lk, ⟨rfl, rfl, rfl⟩, rfl, fun e he => ?_, .cons (keyIs_str x1 t1) rfl (.cons (keyIs_str x2 t2) rfl .nil), ?_⟩
  · have he : e = ⟨h1, .str x1 t1, .int i1 u1⟩ ∨ e = ⟨h2, .str x2 t2, .int i2 u2⟩ := by simpa using he
    rcases he with rfl | rfl
    · exact ⟨Sum.inr x1, keyIs_str x1 t1, e1⟩
    · exact ⟨Sum.inr x2, keyIs_str x2 t2, e2⟩
  · show [(Sum.inr x1 : Key), Sum.inr x2].Nodup
    simp [ne]
end L2

/-! MORE RULES over the layer: zip(xs, ys), both tracked lists -/
namespace L2
open PySem PySem.Spec PyProof.Rows

section
variable {X : Cx} {pins : List (Addr × Obj)} {σ : St} {H : Hp} {s : Shared}
/-- some records of ours have turned -/
theorem Inv.turnedL {fp : List Addr} {h' : Heap} {t' : Nat} (I : Inv X pins σ H s) (hf : ∀ b ∈ fp, FpOk X pins H b)
    (k : ∀ b ob, b ∉ fp → s.heap.get? b = some ob → h'.get? b = some ob) : Inv X pins σ H { s with heap := h', toks := t' } := by
  have nit : ∀ b u, H b = some u → b ∉ fp := fun b u e z => by rw [(hf b z).1] at e; cases e
  have nL : X.env.locals ∉ fp := fun z => (hf _ z).2.1 rfl
  refine I.step (g' := s.gens) (d' := s.drawn) (ch := fp) (fun b hb => ?_) (fun b o _ _ hc e _ => k b o hc e) (fun b o _ _ hc e _ => ⟨o.slots, k b o hc e⟩) (fun _ _ _ _ n => n)
    (fun b o hc e => ⟨o, k b o hc e⟩) (fun _ _ e => e) (fun _ _ _ e => e) (fun b ps e => ⟨#[], by rw [e]; simp⟩) (fun m hm => ?_) (fun b u e => ?_) I.bare
  · obtain ⟨_, f1, _, f3, f4, f5⟩ := hf b hb
    exact ⟨f3, f1, f4, f5⟩
  · obtain ⟨o, es, ep, ho, r⟩ := hm
    exact ⟨o, es, ep, k _ o nL ho, r⟩
  · refine (I.hok b u e).stay (fun c v hc q => k c v ?_ q) (fun _ q => q) fun _ _ q => q
    rcases hc with z | z
    · rw [z]; exact nit b u e
    · exact nit _ _ z
/-- some records of ours have turned, a new object lies behind the heap -/
theorem Inv.turnedLN {fp : List Addr} {h' : Heap} {t' : Nat} {o : HO} (I : Inv X pins σ H s) (hf : ∀ b ∈ fp, FpOk X pins H b)
    (k : ∀ b ob, b ∉ fp → s.heap.get? b = some ob → h'.get? b = some ob) (new : ObjOk X.prog X.w (upd H s.heap.objs.size o) h' s.heap.objs.size o) :
    Inv X pins σ (upd H s.heap.objs.size o) { s with heap := h', toks := t' } := by
  have nit : ∀ b u, H b = some u → b ∉ fp := fun b u e z => by rw [(hf b z).1] at e; cases e
  have nL : X.env.locals ∉ fp := fun z => (hf _ z).2.1 rfl
  have ne : ∀ b ob, s.heap.get? b = some ob → b ≠ s.heap.objs.size := fun b ob q => Nat.ne_of_lt (Heap.lt_size q)
  have hn : H s.heap.objs.size = none := I.hok.fresh (Nat.le_refl _)
  refine I.step (g' := s.gens) (d' := s.drawn) (ch := fp) (fun b hb => ?_) (fun b ob _ _ hc q _ => k b ob hc q) (fun b ob _ _ hc q _ => ⟨ob.slots, k b ob hc q⟩)
    (fun b ob _ q n => by rw [upd_ne (ne b ob q)]; exact n) (fun b ob hc q => ⟨ob, k b ob hc q⟩) (fun b xs q => by rw [upd_ne (ne_of_none q hn)]; exact q)
    (fun b ob u q => by rw [upd_ne (ne_of_none q hn)]; exact q) (fun b ps q => ⟨#[], by rw [upd_ne (ne_of_none q hn), q]; simp⟩) (fun m hm => ?_) (fun b u q => ?_) I.bare
  · obtain ⟨_, f1, _, f3, f4, f5⟩ := hf b hb
    exact ⟨f3, f1, f4, f5⟩
  · obtain ⟨ob, es, ep, ho, r⟩ := hm
    exact ⟨ob, es, ep, k _ ob nL ho, r⟩
  · by_cases hb : b = s.heap.objs.size
    · subst hb; rw [upd_same] at q; cases q; exact new
    · rw [upd_ne hb] at q
      refine (I.hok b u q).stay (fun c v hc z => k _ v ?_ z) (fun c z => by rw [upd_ne (ne_of_none z hn)]; exact z) fun c xs z => by rw [upd_ne (ne_of_none z hn)]; exact z
      rcases hc with y | y
      · subst y; exact nit _ _ q
      · exact nit _ _ y
end

theorem pek_fld {X : Cx} {K' : PySem.W.Frag} {e : Expr} {f : Str} {pos : Pos} {ta : TE} (h : X.K = K') (he : PE X e ta) (hb : attributeBase e f X.env (eval e X.env) = eval e X.env) : PE X (.Attribute e f pos) (tFld K' ta f) := h ▸ pe_fld he hb
def Itz (a b : Addr) : It :=
  ⟨fun i H => ∃ xs ys x y, H a = some (.lst xs) ∧ H b = some (.lst ys) ∧ xs[i]? = some x ∧ ys[i]? = some y,
   fun i H v H' => ∃ p x y, H p = none ∧ v = .ref p ∧ H' = upd H p (.tup [x, y]) ∧ (∀ xs, H a = some (.lst xs) → xs[i]? = some x) ∧ ∀ ys, H b = some (.lst ys) → ys[i]? = some y,
   fun i H => ∃ xs ys, H a = some (.lst xs) ∧ H b = some (.lst ys) ∧ (xs.length ≤ i ∨ ys.length ≤ i)⟩
theorem turn_zip {P : Program} {w : World} {K : PySem.W.Frag} {elts : List Expr} {x1} {pos : Pos} (l1 l2 z TI TO i1 i2 : Addr) (D : ZipApart z TI TO i1 i2 l1 l2) :
    Turn P w K (.Tuple elts x1 pos) (Itz l1 l2) [z, TI, TO, i1, i2] z (fun i h => IsZip h z TI TO .none ∧ IsPair h TI (.ref i1) (.ref i2) ∧ (∃ a b, IsPair h TO a b) ∧ h.IsListIter i1 l1 i ∧ h.IsListIter i2 l2 i) where
  mem := by simp
  obj := fun i h st b hb => by
    obtain ⟨hz, hTI, ⟨a, b', hTO⟩, ⟨o1, ho1, hc1, hd1⟩, ⟨o2, ho2, hc2, hd2⟩⟩ := st
    simp only [List.mem_cons, List.not_mem_nil, or_false] at hb
    rcases hb with rfl | rfl | rfl | rfl | rfl
    · exact ⟨_, hz, fun v z => by cases z⟩
    · exact ⟨_, hTI, fun v z => by cases z⟩
    · exact ⟨_, hTO, fun v z => by cases z⟩
    · exact ⟨o1, ho1, fun v z => by rw [hd1] at z; cases z⟩
    · exact ⟨o2, ho2, fun v z => by rw [hd2] at z; cases z⟩
  keep := fun i h h' ⟨hz, hTI, ⟨a, b, hTO⟩, h1, h2⟩ k => ⟨k z (by simp) _ hz, k TI (by simp) _ hTI, ⟨a, b, k TO (by simp) _ hTO⟩, h1.at fun o q => k i1 (by simp) o q, h2.at fun o q => k i2 (by simp) o q⟩
  item := by
    intro X hP hw hK hc i pins s σ H E I hf st hg
    subst hP hw hK
    obtain ⟨hz, hTI, ⟨a, b, hTO⟩, h1, h2⟩ := st
    obtain ⟨xs, ys, x, y, hq, hq2, hx, hy⟩ := hg
    obtain ⟨its, rv, p, hsz⟩ := I.list (SqL.of hq)
    obtain ⟨its2, rv2, p2, hsz2⟩ := I.list (SqL.of hq2)
    obtain ⟨u, hu, ru⟩ := rv.get hx
    obtain ⟨u2, hu2, ru2⟩ := rv2.get hy
    refine wpAny_pyNext_zip_item D hz hTI hTO h1 h2 p.isList p2.isList (x := u) (y := u2) (by simpa using hu) (by simpa using hu2) fun h3 hz3 hTO3 h13 h23 ht3 hs3 hk3 => ⟨_, rfl, ?_⟩
    refine wpAny_letOwnedTupleGo_zip hz3 fun h4 hz4 hs4 => ?_
    have hs4 : Heap.SameBut z h3 h4 := hs4
    have hzH : z < s.heap.objs.size := Heap.lt_size hz
    have hn : H s.heap.objs.size = none := I.hok.fresh (Nat.le_refl _)
    have ht4 : h4.get? s.heap.objs.size = some { cls := .type "tuple", data := .seq #[u, u2] } := (hs4.2 _ (Nat.ne_of_gt hzH)).trans ht3
    have kk : ∀ b ob, b ∉ [z, TI, TO, i1, i2] → s.heap.get? b = some ob → h4.get? b = some ob := fun b ob hb e => by
      simp only [List.mem_cons, List.not_mem_nil, or_false, not_or] at hb
      exact (hs4.2 b hb.1).trans (hk3 b ob hb.1 hb.2.2.1 hb.2.2.2.1 hb.2.2.2.2 e)
    have I2 : Inv X pins σ (upd H s.heap.objs.size (.tup [x, y])) { s with heap := h4, toks := s.toks } := by
      refine I.turnedLN hf kk ?_
      exact ⟨by rw [sizeLine_eq]; simp, [u, u2], .cons ru (.cons ru2 .nil), ⟨_, ht4, rfl, 0, rfl⟩⟩
    refine ⟨.ref s.heap.objs.size, _, I2, rfl, ⟨_, x, y, hn, rfl, rfl, fun zs hy' => ?_, fun zs hy' => ?_⟩, ⟨hz4, ?_, ⟨u, u2, ?_⟩, ?_, ?_⟩, fun b hb => ?_⟩
    · rw [hq] at hy'; cases hy'; exact hx
    · rw [hq2] at hy'; cases hy'; exact hy
    · exact (hs4.2 _ D.TIz).trans (hk3 _ _ D.TIz D.TITO D.TIi1 D.TIi2 hTI)
    · exact (hs4.2 _ D.TOz).trans hTO3
    · exact h13.extBut hs4.extBut D.i1z
    · exact h23.extBut hs4.extBut D.i2z
    · rw [upd_ne]
      · exact (hf b hb).1
      · obtain ⟨o1, ho1, _⟩ := h1
        obtain ⟨o2, ho2, _⟩ := h2
        simp only [List.mem_cons, List.not_mem_nil, or_false] at hb
        rcases hb with rfl | rfl | rfl | rfl | rfl
        · exact Nat.ne_of_lt hzH
        · exact Nat.ne_of_lt (Heap.lt_size hTI)
        · exact Nat.ne_of_lt (Heap.lt_size hTO)
        · exact Nat.ne_of_lt (Heap.lt_size ho1)
        · exact Nat.ne_of_lt (Heap.lt_size ho2)
  done := by
    intro X hP hw hK hc i pins s σ H E I hf st hg
    subst hP hw hK
    obtain ⟨hz, hTI, ⟨a, b, hTO⟩, h1, h2⟩ := st
    obtain ⟨xs, ys, hq, hq2, hx⟩ := hg
    obtain ⟨its, rv, p, hsz⟩ := I.list (SqL.of hq)
    obtain ⟨its2, rv2, p2, hsz2⟩ := I.list (SqL.of hq2)
    have hl := rv.length
    have hl2 := rv2.length
    refine wpAny_pyNext_zip_end (I.ok.hd hc) D hz hTI hTO h1 h2 p.isList p2.isList ?_ fun h' eb => ⟨rfl, I.turnedL (t' := s.toks) hf fun b ob hb e => ?_⟩
    · rcases hx with hx | hx
      · left; simp; omega
      · right; simp; omega
    · simp only [List.mem_cons, List.not_mem_nil, or_false, not_or] at hb
      exact eb b ob hb.1 hb.2.2.1 hb.2.2.2.1 hb.2.2.2.2 e
  self := fun _ _ _ _ _ ⟨hz, _⟩ h => wpAny_pyIter_zip hz h

section
variable {X : Cx}
def iZip (ta : TA) : TI := fun σ H R => ta σ H fun vs H1 => ∃ a b xs ys, vs = [.ref a, .ref b] ∧ H1 a = some (.lst xs) ∧ H1 b = some (.lst ys) ∧ R (Itz a b) H1
theorem pi_zip {elts : List Expr} {x1} {tpos : Pos} {l m : Expr} {ta : TA} {p pos : Pos} (hg : Gl X "zip") (hm : X.mg "zip" = none) (ha : PA X [l, m] ta)
    (hs : starEach [l, m] X.env = [(false, eval l X.env), (false, eval m X.env)] := by rfl) (hs2 : starEach [m] X.env = [(false, eval m X.env)] := by rfl) :
    PI X (.Tuple elts x1 tpos) (.Call (.Name "zip" p) [l, m] [] pos) (iZip ta) := by
  intro pins s σ H R I h
  refine Call_ (ld_blt I hg hm boot_zip (PyProof.Rows.callWith_type1 (thn (ha pos pins s σ H _ I h) fun us s1 ⟨vs, H1, I1, r1, q1⟩ => ?_) (by rw [hs, hs2]) (by rw [hs2]; rfl)))
  obtain ⟨a, b, xs, ys, e, hq, hq2, q⟩ := q1
  subst e
  obtain ⟨u, u2, rfl, ru, ru2⟩ := vals2 r1
  cases ru
  cases ru2
  obtain ⟨its, rv, p1, hsz⟩ := I1.list (SqL.of hq)
  obtain ⟨its2, rv2, p2, hsz2⟩ := I1.list (SqL.of hq2)
  obtain ⟨o1, ho1, _⟩ := p1.isList
  obtain ⟨o2, ho2, _⟩ := p2.isList
  refine call_zip_2 p1.isList p2.isList fun h' hz hTI hTO hi1 hi2 hsz hk => wpAny_pyIter_zip hz ?_
  have I2 : Inv X pins σ H1 { s1 with heap := h' } := I1.kept (t' := s1.toks) hk
  refine ⟨_, [s1.heap.objs.size + 4, s1.heap.objs.size + 2, s1.heap.objs.size + 3, s1.heap.objs.size, s1.heap.objs.size + 1], _, _, H1, rfl, I2,
    turn_zip a b _ _ _ _ _ (zipApart_new (Heap.lt_size ho1) (Heap.lt_size ho2)), ⟨hz, hTI, ⟨_, _, hTO⟩, hi1, hi2⟩, fun c hc => ?_, q⟩
  have hc : s1.heap.objs.size ≤ c := by
    simp only [List.mem_cons, List.not_mem_nil, or_false] at hc
    rcases hc with rfl | rfl | rfl | rfl | rfl <;> omega
  exact I1.fpOk hc (I1.hok.fresh hc)
end
theorem for_zip {a b : Addr} {xs ys : List V} {g : TG} {tb : TS} {D : Ends} {σ : St} {H : Hp} (Pv : Nat → St → Hp → Prop) (he : xs.length = ys.length) (h0 : Pv 0 σ H) (hl : ∀ i σ H, i ≤ xs.length → Pv i σ H → H a = some (.lst xs) ∧ H b = some (.lst ys))
    (hs : ∀ i x y σ H p, xs[i]? = some x → ys[i]? = some y → Pv i σ H → H p = none → g (.ref p) σ (upd H p (.tup [x, y])) fun σ2 H2 => tb { D with nx := Pv (i + 1), ct := Pv (i + 1), bk := D.nx } σ2 H2) (hd : ∀ σ H, Pv xs.length σ H → D.nx σ H) :
    ∃ W : Nat → Nat → St → Hp → Prop, (∃ m, W 0 m σ H) ∧ ∀ i m σ H, W i m σ H →
      ((Itz a b).stop i H ∧ D.nx σ H) ∨ ((Itz a b).go i H ∧ ∃ N : St → Hp → Prop, (∀ σ' H', N σ' H' → ∃ m', m' < m ∧ W (i + 1) m' σ' H') ∧ ∀ x H', (Itz a b).yld i H x H' → g x σ H' fun σ2 H2 => tb { D with nx := N, ct := N, bk := D.nx } σ2 H2) := by
  refine ⟨fun i m σ H => m = xs.length - i ∧ i ≤ xs.length ∧ Pv i σ H, ⟨xs.length, by simp, Nat.zero_le _, h0⟩, ?_⟩
  rintro i m σ H ⟨rfl, hi, p⟩
  obtain ⟨q, q2⟩ := hl i σ H hi p
  by_cases hlt : i < xs.length
  · have hlt2 : i < ys.length := by omega
    refine .inr ⟨⟨xs, ys, xs[i], ys[i], q, q2, by simp [hlt], by simp [hlt2]⟩, Pv (i + 1), fun σ' H' p' => ⟨xs.length - (i + 1), by omega, rfl, hlt, p'⟩, fun v H' y => ?_⟩
    obtain ⟨pp, x, y, hp, e1, e2, hx, hy⟩ := y
    subst e1 e2
    exact hs i x y σ H pp (hx xs q) (hy ys q2) p hp
  · have e : i = xs.length := by omega
    subst e
    exact .inl ⟨⟨xs, ys, q, q2, .inl (Nat.le_refl _)⟩, hd σ H p⟩
end L2

/-! THE DATA of the program: things, boxes, a house as it lies in the heap -/
namespace LW
open PySem L2

/-! ### lists and dicts by place -/
section
variable {κ : Type} [DecidableEq κ]
theorem valV_at {kvs : List (κ × V)} (nd : (kvs.map (·.1)).Nodup) {i : Nat} {k : κ} {v : V} (h : kvs[i]? = some (k, v)) : valV kvs k = some v := by
  induction kvs generalizing i with
  | nil => simp at h
  | cons p r ih =>
    have nd : (p.1 :: r.map (·.1)).Nodup := nd
    obtain ⟨n1, n2⟩ := List.nodup_cons.mp nd
    cases i with
    | zero =>
      have h : p = (k, v) := by simpa using h
      subst h
      exact valV_pos rfl
    | succ i =>
      have h : r[i]? = some (k, v) := by simpa using h
      have hk : k ∈ r.map (·.1) := List.mem_map.mpr ⟨(k, v), List.mem_of_getElem? h, rfl⟩
      rw [valV_neg (fun e => n1 (by rw [e]; exact hk))]
      exact ih n2 h
theorem valV_out {kvs : List (κ × V)} {k : κ} (h : ¬ k ∈ kvs.map (·.1)) : valV kvs k = none := by
  cases e : valV kvs k with
  | none => rfl
  | some v => exact absurd (valV_in e) h
theorem putK_at {kvs : List (κ × V)} (nd : (kvs.map (·.1)).Nodup) {i : Nat} {k : κ} {v v' : V} (h : kvs[i]? = some (k, v)) : putK kvs k v' = kvs.set i (k, v') := by
  have e1 := valV_at nd h
  have e2 : putK kvs k v' = kvs.map fun kv => if kv.1 = k then (kv.1, v') else kv := by
    unfold putK
    rw [valV_any, e1]
    rfl
  rw [e2]
  clear e1 e2
  induction kvs generalizing i with
  | nil => simp at h
  | cons p r ih =>
    have nd : (p.1 :: r.map (·.1)).Nodup := nd
    obtain ⟨n1, n2⟩ := List.nodup_cons.mp nd
    cases i with
    | zero =>
      have h : p = (k, v) := by simpa using h
      subst h
      have hr : ∀ q ∈ r, (fun kv : κ × V => if kv.1 = k then (kv.1, v') else kv) q = q := fun q hq => by
        have : ¬ q.1 = k := fun e => n1 (by show k ∈ _; rw [← e]; exact List.mem_map.mpr ⟨q, hq, rfl⟩)
        show (if q.1 = k then (q.1, v') else q) = q
        rw [if_neg this]
      rw [List.map_cons, List.set_cons_zero, List.map_congr_left hr, List.map_id']
      show (if k = k then (k, v') else (k, v)) :: r = _
      rw [if_pos rfl]
    | succ i =>
      have h : r[i]? = some (k, v) := by simpa using h
      have hk : k ∈ r.map (·.1) := List.mem_map.mpr ⟨(k, v), List.mem_of_getElem? h, rfl⟩
      have hp : ¬ p.1 = k := fun e => n1 (by rw [e]; exact hk)
      rw [List.map_cons, List.set_cons_succ, ih n2 h]
      show (if p.1 = k then (p.1, v') else p) :: _ = _
      rw [if_neg hp]
end
section
variable {α β : Type} {F G : α → β → Prop}
theorem pr_get : ∀ {xs : List α} {ys : List β} {i : Nat} {x : α}, Paired F xs ys → xs[i]? = some x → ∃ y, ys[i]? = some y ∧ F x y
  | _, _, _, _, .nil, h => by simp at h
  | _, _, 0, _, .cons r _, h => by simp at h; subst h; exact ⟨_, rfl, r⟩
  | _, _, i + 1, x, .cons _ t, h => by
    obtain ⟨y, h1, h2⟩ := pr_get (i := i) (x := x) t (by simpa using h)
    exact ⟨y, by simpa using h1, h2⟩
theorem pr_getR : ∀ {xs : List α} {ys : List β} {i : Nat} {y : β}, Paired F xs ys → ys[i]? = some y → ∃ x, xs[i]? = some x ∧ F x y
  | _, _, _, _, .nil, h => by simp at h
  | _, _, 0, _, .cons r _, h => by simp at h; subst h; exact ⟨_, rfl, r⟩
  | _, _, i + 1, x, .cons _ t, h => by
    obtain ⟨y, h1, h2⟩ := pr_getR (i := i) (y := x) t (by simpa using h)
    exact ⟨y, by simpa using h1, h2⟩
theorem pr_set {x : α} {y : β} (r : F x y) : ∀ {xs : List α} {ys : List β} (i : Nat), Paired F xs ys → Paired F (xs.set i x) (ys.set i y)
  | _, _, _, .nil => .nil
  | _, _, 0, .cons _ t => .cons r t
  | _, _, i + 1, .cons q t => .cons q (pr_set r i t)
theorem pr_app : ∀ {xs xs' : List α} {ys ys' : List β}, Paired F xs ys → Paired F xs' ys' → Paired F (xs ++ xs') (ys ++ ys')
  | _, _, _, _, .nil, s => s
  | _, _, _, _, .cons r t, s => .cons r (pr_app t s)
theorem pr_imp (f : ∀ a b, a ∈ (xs : List α) → b ∈ (ys : List β) → F a b → G a b) (h : Paired F xs ys) : Paired G xs ys := by
  induction h with
  | nil => exact .nil
  | cons r t ih => exact .cons (f _ _ List.mem_cons_self List.mem_cons_self r) (ih fun a b ha hb => f a b (List.mem_cons_of_mem _ ha) (List.mem_cons_of_mem _ hb))
theorem pr_rep {x : α} {y : β} (r : F x y) : ∀ n : Nat, Paired F (List.replicate n x) (List.replicate n y)
  | 0 => .nil
  | n + 1 => .cons r (pr_rep r n)
theorem pr_len {xs : List α} {ys : List β} (h : Paired F xs ys) : xs.length = ys.length := Paired.length h
end

/-! ### things -/
inductive T where
  | non | num (i : Int) | box (n : Int)
  deriving DecidableEq
def isT (H : Hp) : T → V → Prop
  | .non, v => v = .non
  | .num i, v => v = .int i
  | .box n, v => ∃ a, v = .ref a ∧ H a = some (.tup [.str "box", .int n])
/-- the tuples stay -/
def Tups (H H' : Hp) : Prop := ∀ b xs, H b = some (.tup xs) → H' b = some (.tup xs)
theorem Tups.refl (H : Hp) : Tups H H := fun _ _ h => h
theorem Tups.trans {H H1 H2 : Hp} (a : Tups H H1) (b : Tups H1 H2) : Tups H H2 := fun c xs h => b c xs (a c xs h)
theorem Tups.of_same {H H' : Hp} (s : Same H H') : Tups H H' := fun b _ h => s b _ h
theorem Tups.upd {H : Hp} {a : Addr} {o o' : HO} (h : H a = some o') (n : ∀ xs, o' ≠ .tup xs) : Tups H (upd H a o) := fun b xs q => by
  rw [upd_ne]
  · exact q
  · rintro rfl
    rw [h] at q
    cases q
    exact n xs rfl
theorem Tups.new {H : Hp} {a : Addr} {o : HO} (h : H a = none) : Tups H (L2.upd H a o) := fun b xs q => by rw [upd_ne (ne_of_none q h)]; exact q
theorem isT.keep {H H' : Hp} {t : T} {v : V} (k : Tups H H') (h : isT H t v) : isT H' t v := by
  cases t with
  | non => exact h
  | num i => exact h
  | box n => obtain ⟨a, e, q⟩ := h; exact ⟨a, e, k _ _ q⟩
abbrev Ths (H : Hp) : List T → List V → Prop := Paired (isT H)
theorem Ths.keep {H H' : Hp} {ts : List T} {vs : List V} (k : Tups H H') (h : Ths H ts vs) : Ths H' ts vs := pr_imp (fun _ _ _ _ z => z.keep k) h
/-- a list of things at a -/
def ThL (H : Hp) (ts : List T) (a : Addr) : Prop := ∃ vs, H a = some (.lst vs) ∧ Ths H ts vs
def IntL (H : Hp) (ns : List Int) (a : Addr) : Prop := H a = some (.lst (ns.map V.int))
theorem ThL.keep {H H' : Hp} {ts : List T} {a : Addr} (k : Tups H H') (e : H' a = H a) (h : ThL H ts a) : ThL H' ts a := let ⟨vs, h1, h2⟩ := h; ⟨vs, e.trans h1, h2.keep k⟩

/-! ### the house -/
structure Box where
  name : Int
  kind : Str
  row : List T
structure HS where
  room : Int
  slots : List T
  last : Int
  boxes : List Box
  queues : List (List Int)
  told : List (List Int)
/-- where its parts lie: the slots' list, the two dicts, the lists of fields, the guards' lists -/
structure HA where
  dx : Addr
  sl : Addr
  kd : Addr
  fd : Addr
  fl : List Addr
  qs : Addr
  ql : List Addr
  td : Addr
  tl : List Addr
def HA.lists (A : HA) : List Addr := A.sl :: A.qs :: A.td :: (A.fl ++ (A.ql ++ A.tl))
def HA.foot (A : HA) (p : Addr) : List Addr := p :: A.kd :: A.fd :: A.lists
def hFlds (A : HA) (S : HS) : List (Str × V) :=
  [("room", .int S.room), ("slots", .ref A.sl), ("last_name", .int S.last), ("kinds", .ref A.kd), ("fields", .ref A.fd), ("queues", .ref A.qs), ("told", .ref A.td)]
def kindsD (bs : List Box) : List (Key × V) := bs.map fun b => ((Sum.inl b.name : Key), V.str b.kind)
def fieldsD (bs : List Box) (fl : List Addr) : List (Key × V) := (bs.zip fl).map fun q => ((Sum.inl q.1.name : Key), V.ref q.2)
structure HouseAt (C : Addr) (H : Hp) (p : Addr) (A : HA) (S : HS) : Prop where
  ob : H p = some (.ins C A.dx (hFlds A S))
  sl : ThL H S.slots A.sl
  kd : H A.kd = some (.dK (kindsD S.boxes))
  fd : H A.fd = some (.dK (fieldsD S.boxes A.fl))
  fl : Paired (fun b a => ThL H b.row a) S.boxes A.fl
  qs : H A.qs = some (.lst (A.ql.map V.ref))
  ql : Paired (IntL H) S.queues A.ql
  td : H A.td = some (.lst (A.tl.map V.ref))
  tl : Paired (IntL H) S.told A.tl
  nd : A.lists.Nodup
  kf : A.kd ≠ A.fd
  asc : (S.boxes.map (·.name)).Pairwise (· < ·)
  top : ∀ b ∈ S.boxes, b.name ≤ S.last
theorem HouseAt.nm {C : Addr} {H : Hp} {p : Addr} {A : HA} {S : HS} (h : HouseAt C H p A S) : (S.boxes.map (·.name)).Nodup := h.asc.imp fun z => Int.ne_of_lt z
/-- all but F is as it was -/
def Frame (F : List Addr) (H H' : Hp) : Prop := ∀ b o, H b = some o → b ∉ F → H' b = some o
theorem Frame.of_same {F : List Addr} {H H' : Hp} (s : Same H H') : Frame F H H' := fun b o h _ => s b o h
theorem Frame.refl (F : List Addr) (H : Hp) : Frame F H H := fun _ _ h _ => h
theorem Frame.trans {F F' : List Addr} {H H1 H2 : Hp} (a : Frame F H H1) (b : Frame F' H1 H2) (hF : ∀ c o, H c = some o → c ∉ F → c ∉ F') : Frame F H H2 := fun c o h n => b c o (a c o h n) (hF c o h n)
/-- what grows: each place of F' is one of F, or was free -/
def Grown (F F' : List Addr) (H : Hp) : Prop := ∀ b ∈ F', b ∈ F ∨ H b = none
theorem Grown.refl (F : List Addr) (H : Hp) : Grown F F H := fun _ h => .inl h
theorem Grown.out {F F' : List Addr} {H : Hp} (g : Grown F F' H) {b : Addr} {o : HO} (h : H b = some o) (n : b ∉ F) : b ∉ F' := fun z => by
  rcases g b z with q | q
  · exact n q
  · rw [h] at q; cases q
section
variable {C : Addr} {H H' : Hp} {p : Addr} {A : HA} {S : HS}
theorem HouseAt.keep (h : HouseAt C H p A S) (k : ∀ b ∈ A.foot p, H' b = H b) (t : Tups H H') : HouseAt C H' p A S where
  ob := (k p (by simp [HA.foot])).trans h.ob
  sl := h.sl.keep t (k _ (by simp [HA.foot, HA.lists]))
  kd := (k _ (by simp [HA.foot])).trans h.kd
  fd := (k _ (by simp [HA.foot])).trans h.fd
  fl := pr_imp (fun b a _ ha z => z.keep t (k _ (by simp [HA.foot, HA.lists, ha]))) h.fl
  qs := (k _ (by simp [HA.foot, HA.lists])).trans h.qs
  ql := pr_imp (fun b a _ ha z => (k _ (by simp [HA.foot, HA.lists, ha])).trans z) h.ql
  td := (k _ (by simp [HA.foot, HA.lists])).trans h.td
  tl := pr_imp (fun b a _ ha z => (k _ (by simp [HA.foot, HA.lists, ha])).trans z) h.tl
  nd := h.nd
  kf := h.kf
  asc := h.asc
  top := h.top
/-- each place of its foot is taken -/
theorem HouseAt.there (h : HouseAt C H p A S) : ∀ b ∈ A.foot p, ∃ o, H b = some o := fun b hb => by
  have hb : b = p ∨ b = A.kd ∨ b = A.fd ∨ b = A.sl ∨ b = A.qs ∨ b = A.td ∨ b ∈ A.fl ∨ b ∈ A.ql ∨ b ∈ A.tl := by simpa [HA.foot, HA.lists] using hb
  rcases hb with e | e | e | e | e | e | e | e | e
  · exact ⟨_, e ▸ h.ob⟩
  · exact ⟨_, e ▸ h.kd⟩
  · exact ⟨_, e ▸ h.fd⟩
  · obtain ⟨vs, q, _⟩ := h.sl; exact ⟨_, e ▸ q⟩
  · exact ⟨_, e ▸ h.qs⟩
  · exact ⟨_, e ▸ h.td⟩
  · obtain ⟨i, hi⟩ := List.getElem?_of_mem e
    obtain ⟨x, _, vs, q, _⟩ := pr_getR h.fl hi
    exact ⟨_, q⟩
  · obtain ⟨i, hi⟩ := List.getElem?_of_mem e
    obtain ⟨x, _, q⟩ := pr_getR h.ql hi
    exact ⟨_, q⟩
  · obtain ⟨i, hi⟩ := List.getElem?_of_mem e
    obtain ⟨x, _, q⟩ := pr_getR h.tl hi
    exact ⟨_, q⟩
theorem HouseAt.same (h : HouseAt C H p A S) (s : Same H H') : HouseAt C H' p A S := h.keep (fun b hb => by
  obtain ⟨o, q⟩ := h.there b hb
  rw [q]; exact s _ _ q) (Tups.of_same s)
theorem HouseAt.new (h : HouseAt C H p A S) {a : Addr} {o : HO} (n : H a = none) : HouseAt C (upd H a o) p A S := h.same fun b u q => by rw [upd_ne (ne_of_none q n)]; exact q
theorem HouseAt.out (h : HouseAt C H p A S) {a : Addr} (n : H a = none) : a ∉ A.foot p := fun z => by
  obtain ⟨o, q⟩ := h.there a z
  rw [n] at q; cases q
/-- every list of it is a list -/
theorem HouseAt.isL (h : HouseAt C H p A S) : ∀ b ∈ A.lists, ∃ vs, H b = some (.lst vs) := fun b hb => by
  have hb : b = A.sl ∨ b = A.qs ∨ b = A.td ∨ b ∈ A.fl ∨ b ∈ A.ql ∨ b ∈ A.tl := by simpa [HA.lists] using hb
  rcases hb with e | e | e | e | e | e
  · obtain ⟨vs, q, _⟩ := h.sl; exact ⟨_, e ▸ q⟩
  · exact ⟨_, e ▸ h.qs⟩
  · exact ⟨_, e ▸ h.td⟩
  · obtain ⟨i, hi⟩ := List.getElem?_of_mem e
    obtain ⟨x, _, vs, q, _⟩ := pr_getR h.fl hi
    exact ⟨_, q⟩
  · obtain ⟨i, hi⟩ := List.getElem?_of_mem e
    obtain ⟨x, _, q⟩ := pr_getR h.ql hi
    exact ⟨_, q⟩
  · obtain ⟨i, hi⟩ := List.getElem?_of_mem e
    obtain ⟨x, _, q⟩ := pr_getR h.tl hi
    exact ⟨_, q⟩
end
end LW

/-! OWNERSHIP: what a law holds at a moment, as a list of roots, each with the places that are its own -/
namespace LW
open PySem L2

/-- what never changes stays -/
structure Imm (H H' : Hp) : Prop where
  t : Tups H H'
  f : ∀ b o u, H b = some (.frz o u) → H' b = some (.frz o u)
theorem Imm.refl (H : Hp) : Imm H H := ⟨Tups.refl H, fun _ _ _ h => h⟩
theorem Imm.trans {H H1 H2 : Hp} (a : Imm H H1) (b : Imm H1 H2) : Imm H H2 := ⟨a.t.trans b.t, fun c o u h => b.f c o u (a.f c o u h)⟩
theorem Imm.same {H H' : Hp} (s : Same H H') : Imm H H' := ⟨Tups.of_same s, fun b _ _ h => s b _ h⟩
theorem Same.new {H : Hp} {a : Addr} {o : HO} (h : H a = none) : Same H (upd H a o) := fun b u q => by rw [upd_ne (ne_of_none q h)]; exact q
theorem Imm.new {H : Hp} {a : Addr} {o : HO} (h : H a = none) : Imm H (upd H a o) := Imm.same (Same.new h)
/-- what may change -/
def Mutb : HO → Prop
  | .tup _ => False
  | .frz _ _ => False
  | _ => True
theorem Imm.upd {H : Hp} {a : Addr} {o o' : HO} (h : H a = some o') (m : Mutb o') : Imm H (L2.upd H a o) := by
  refine ⟨fun b xs q => ?_, fun b x u q => ?_⟩
  · rw [upd_ne]
    · exact q
    · rintro rfl; rw [h] at q; cases q; exact m
  · rw [upd_ne]
    · exact q
    · rintro rfl; rw [h] at q; cases q; exact m

/-- a root: what it says of the heap, by the places that are its own -/
structure Rt where
  on : Hp → List Addr → Prop
  keep : ∀ {H H' : Hp} {F : List Addr}, on H F → (∀ b ∈ F, H' b = H b) → Imm H H' → on H' F
  there : ∀ {H : Hp} {F : List Addr}, on H F → ∀ b ∈ F, ∃ o, H b = some o

def Own (H : Hp) (W : List Rt) : Prop := ∃ Fs : List (List Addr), Paired (fun r F => r.on H F) W Fs ∧ Fs.flatten.Nodup

theorem flat_mem {α : Type} {Fs : List (List α)} {i : Nat} {F : List α} (h : Fs[i]? = some F) {b : α} (hb : b ∈ F) : b ∈ Fs.flatten := List.mem_flatten.mpr ⟨F, List.mem_of_getElem? h, hb⟩
/-- the rest of a list of lists -/
def others {α : Type} (Fs : List (List α)) (i : Nat) : List α := (Fs.eraseIdx i).flatten
theorem nd_split {α : Type} : ∀ {Fs : List (List α)} {i : Nat} {F : List α}, Fs[i]? = some F → Fs.flatten.Nodup → F.Nodup ∧ (others Fs i).Nodup ∧ (∀ b ∈ F, b ∉ others Fs i)
  | [], _, _, h, _ => by simp at h
  | F0 :: Fs, 0, F, h, nd => by
    have h : F0 = F := by simpa using h
    subst h
    rw [List.flatten_cons] at nd
    obtain ⟨a, b, c⟩ := List.nodup_append.mp nd
    exact ⟨a, b, fun x hx hy => c x hx x hy rfl⟩
  | F0 :: Fs, i + 1, F, h, nd => by
    have h : Fs[i]? = some F := by simpa using h
    rw [List.flatten_cons] at nd
    obtain ⟨a, b, c⟩ := List.nodup_append.mp nd
    obtain ⟨x1, x2, x3⟩ := nd_split h b
    have sub : ∀ y ∈ others Fs i, y ∈ Fs.flatten := fun y hy => by
      obtain ⟨G, hG, hy⟩ := List.mem_flatten.mp hy
      exact List.mem_flatten.mpr ⟨G, List.mem_of_mem_eraseIdx hG, hy⟩
    refine ⟨x1, ?_, fun y hy hz => ?_⟩
    · show (F0 :: Fs.eraseIdx i).flatten.Nodup
      rw [List.flatten_cons]
      exact List.nodup_append.mpr ⟨a, x2, fun p hp q hq => c p hp q (sub q hq)⟩
    · have hz : y ∈ F0 ++ others Fs i := hz
      rcases List.mem_append.mp hz with z | z
      · exact c y z y (flat_mem h hy) rfl
      · exact x3 y hy z
theorem mem_set_flat {α : Type} : ∀ {Fs : List (List α)} {i : Nat} {F' : List α} {x : α}, x ∈ (Fs.set i F').flatten → x ∈ F' ∨ x ∈ others Fs i
  | [], _, _, _, h => by simp at h
  | G :: Gs, 0, F', x, h => by
    have h : x ∈ F' ++ Gs.flatten := h
    rcases List.mem_append.mp h with z | z
    · exact .inl z
    · exact .inr z
  | G :: Gs, i + 1, F', x, h => by
    have h : x ∈ G ++ (Gs.set i F').flatten := h
    rcases List.mem_append.mp h with z | z
    · exact .inr (show x ∈ G ++ others Gs i from List.mem_append_left _ z)
    · rcases mem_set_flat z with q | q
      · exact .inl q
      · exact .inr (show x ∈ G ++ others Gs i from List.mem_append_right _ q)
theorem nd_join {α : Type} : ∀ {Fs : List (List α)} {i : Nat} {F F' : List α}, Fs[i]? = some F → F'.Nodup → (others Fs i).Nodup → (∀ b ∈ F', b ∉ others Fs i) → (Fs.set i F').flatten.Nodup
  | [], _, _, _, h, _, _, _ => by simp at h
  | F0 :: Fs, 0, F, F', h, a, b, c => by
    show (F' :: Fs).flatten.Nodup
    rw [List.flatten_cons]
    exact List.nodup_append.mpr ⟨a, b, fun x hx y hy e => c x hx (e ▸ hy)⟩
  | F0 :: Fs, i + 1, F, F', h, a, b, c => by
    have h : Fs[i]? = some F := by simpa using h
    have b : (F0 ++ others Fs i).Nodup := b
    obtain ⟨b1, b2, b3⟩ := List.nodup_append.mp b
    have c : ∀ x ∈ F', x ∉ F0 ++ others Fs i := c
    show (F0 :: Fs.set i F').flatten.Nodup
    rw [List.flatten_cons]
    refine List.nodup_append.mpr ⟨b1, nd_join h a b2 (fun x hx z => c x hx (List.mem_append_right _ z)), fun x hx y hy e => ?_⟩
    subst e
    rcases mem_set_flat hy with z | z
    · exact c x z (List.mem_append_left _ hx)
    · exact b3 x hx x z rfl
theorem pr_setX {α β : Type} {F G : α → β → Prop} {x : α} {y : β} : ∀ {xs : List α} {ys : List β} {i : Nat}, Paired F xs ys → G x y → (∀ (j : Nat) a b, j ≠ i → xs[j]? = some a → ys[j]? = some b → F a b → G a b) → Paired G (xs.set i x) (ys.set i y)
  | _, _, _, .nil, _, _ => .nil
  | _, _, 0, .cons _ t, g, f => .cons g (by
      have f' : ∀ (j : Nat) a b, _ → _ → F a b → G a b := fun j a b => f (j + 1) a b (by omega)
      clear f
      induction t with
      | nil => exact .nil
      | cons r s ih => exact .cons (f' 0 _ _ rfl rfl r) (ih fun j a b h1 h2 => f' (j + 1) a b (by simpa using h1) (by simpa using h2)))
  | _, _, i + 1, .cons r t, g, f => .cons (f 0 _ _ (by omega) rfl rfl r) (pr_setX t g fun j a b hj h1 h2 => f (j + 1) a b (by omega) (by simpa using h1) (by simpa using h2))
section
variable {H H' : Hp} {W : List Rt} {i : Nat} {r r' : Rt} {l : Addr} {o : HO}
theorem Own.get (w : Own H W) (h : W[i]? = some r) : ∃ F, r.on H F := by
  obtain ⟨Fs, p, _⟩ := w
  obtain ⟨F, _, q⟩ := pr_get p h
  exact ⟨F, q⟩
/-- one root changes, within its own places and new ones -/
theorem Own.chg (w : Own H W) (h : W[i]? = some r) : ∃ (F G : List Addr), r.on H F ∧ F.Nodup ∧ (∀ b ∈ F, b ∉ G) ∧ (∀ b ∈ G, ∃ o, H b = some o) ∧
    ∀ (H' : Hp) (r' : Rt) (F' : List Addr), r'.on H' F' → F'.Nodup → (∀ b ∈ F', b ∈ F ∨ H b = none) → (∀ b ∈ G, H' b = H b) → Imm H H' → Own H' (W.set i r') := by
  obtain ⟨Fs, p, nd⟩ := w
  obtain ⟨F, hF, q⟩ := pr_get p h
  obtain ⟨n1, n2, n3⟩ := nd_split hF nd
  have th : ∀ b ∈ others Fs i, ∃ o, H b = some o := fun b hb => by
    obtain ⟨G, hG, hb⟩ := List.mem_flatten.mp hb
    obtain ⟨j, hj⟩ := List.getElem?_of_mem (List.mem_of_mem_eraseIdx hG)
    obtain ⟨r2, _, q2⟩ := pr_getR p hj
    exact r2.there q2 b hb
  refine ⟨F, others Fs i, q, n1, n3, th, fun H' r' F' q' nd' sub kp im => ⟨Fs.set i F', pr_setX p q' fun j a b hj h1 h2 z => a.keep z (fun c hc => kp c ?_) im, nd_join hF nd' n2 fun b hb hz => ?_⟩⟩
  · refine List.mem_flatten.mpr ⟨b, ?_, hc⟩
    exact List.mem_iff_getElem?.mpr (by
      by_cases e : j < i
      · exact ⟨j, by rw [List.getElem?_eraseIdx_of_lt e]; exact h2⟩
      · have e : i < j := by omega
        obtain ⟨k, rfl⟩ : ∃ k, j = k + 1 := ⟨j - 1, by omega⟩
        exact ⟨k, by rw [List.getElem?_eraseIdx_of_ge (by omega)]; exact h2⟩)
  · rcases sub b hb with z | z
    · exact n3 b z hz
    · obtain ⟨u, e⟩ := th b hz
      rw [z] at e; cases e
theorem Own.same (w : Own H W) (s : Same H H') : Own H' W := by
  obtain ⟨Fs, p, nd⟩ := w
  exact ⟨Fs, pr_imp (fun r F _ _ z => r.keep z (fun b hb => by
    obtain ⟨o, e⟩ := r.there z b hb
    rw [e]; exact s _ _ e) (Imm.same s)) p, nd⟩
theorem Own.out (w : Own H W) (h : H l = none) : ∀ Fs, Paired (fun r F => r.on H F) W Fs → l ∉ Fs.flatten := fun Fs p z => by
  obtain ⟨F, hF, hb⟩ := List.mem_flatten.mp z
  obtain ⟨j, hj⟩ := List.getElem?_of_mem hF
  obtain ⟨r, _, q⟩ := pr_getR p hj
  obtain ⟨o, e⟩ := r.there q l hb
  rw [h] at e; cases e
/-- a new object -/
theorem Own.new (w : Own H W) (h : H l = none) (n : r.on (upd H l o) [l]) : Own (upd H l o) (r :: W) := by
  have w2 := w
  obtain ⟨Fs, p, nd⟩ := w
  have ho := w2.out h Fs p
  refine ⟨[l] :: Fs, .cons n (pr_imp (fun r F _ hF z => r.keep z (fun b hb => upd_ne fun e => ?_) (Imm.new h)) p), ?_⟩
  · subst e
    exact ho (List.mem_flatten.mpr ⟨F, hF, hb⟩)
  · show (l :: Fs.flatten).Nodup
    exact List.nodup_cons.mpr ⟨ho, nd⟩
theorem Own.imm (w : Own H W) (n : r.on H []) : Own H (r :: W) := by
  obtain ⟨Fs, p, nd⟩ := w
  exact ⟨[] :: Fs, .cons n p, by simpa using nd⟩
theorem Own.tail (w : Own H (r :: W)) : Own H W := by
  obtain ⟨Fs, p, nd⟩ := w
  cases p with
  | cons q t =>
    rw [List.flatten_cons] at nd
    exact ⟨_, t, (List.nodup_append.mp nd).2.1⟩
theorem Own.nil (H : Hp) : Own H [] := ⟨[], .nil, by simp⟩
end

/-! ### the roots one uses -/
def rHouse (C p : Addr) (S : HS) : Rt where
  on H F := ∃ A, HouseAt C H p A S ∧ F = A.foot p
  keep := by
    rintro H H' F ⟨A, h, rfl⟩ k im
    exact ⟨A, h.keep k im.t, rfl⟩
  there := by
    rintro H F ⟨A, h, rfl⟩ b hb
    exact h.there b hb
def rLls (a : Addr) (xss : List (List Int)) : Rt where
  on H F := ∃ al, H a = some (.lst (al.map V.ref)) ∧ Paired (IntL H) xss al ∧ F = a :: al
  keep := by
    rintro H H' F ⟨al, h, p, rfl⟩ k im
    exact ⟨al, (k a (by simp)).trans h, pr_imp (fun x b _ hb z => (k b (by simp [hb])).trans z) p, rfl⟩
  there := by
    rintro H F ⟨al, h, p, rfl⟩ b hb
    rcases List.mem_cons.mp hb with rfl | hb
    · exact ⟨_, h⟩
    · obtain ⟨j, hj⟩ := List.getElem?_of_mem hb
      obtain ⟨x, _, z⟩ := pr_getR p hj
      exact ⟨_, z⟩
/-- the law's record of the boxes: a dict of kinds, a dict of rows -/
def rRec (ak ar : Addr) (bs : List Box) : Rt where
  on H F := ∃ fl, H ak = some (.dK (kindsD bs)) ∧ H ar = some (.dK (fieldsD bs fl)) ∧ Paired (fun b a => ThL H b.row a) bs fl ∧ F = ak :: ar :: fl
  keep := by
    rintro H H' F ⟨fl, h1, h2, p, rfl⟩ k im
    exact ⟨fl, (k ak (by simp)).trans h1, (k ar (by simp)).trans h2, pr_imp (fun x b _ hb z => z.keep im.t (k b (by simp [hb]))) p, rfl⟩
  there := by
    rintro H F ⟨fl, h1, h2, p, rfl⟩ b hb
    have hb : b = ak ∨ b = ar ∨ b ∈ fl := by simpa using hb
    rcases hb with rfl | rfl | hb
    · exact ⟨_, h1⟩
    · exact ⟨_, h2⟩
    · obtain ⟨j, hj⟩ := List.getElem?_of_mem hb
      obtain ⟨x, _, vs, z, _⟩ := pr_getR p hj
      exact ⟨_, z⟩
def rTh (v : V) (t : T) : Rt where
  on H F := isT H t v ∧ F = []
  keep := by
    rintro H H' F ⟨h, rfl⟩ k im
    exact ⟨h.keep im.t, rfl⟩
  there := by
    rintro H F ⟨h, rfl⟩ b hb
    simp at hb
def rTup (a : Addr) (vs : List V) : Rt where
  on H F := H a = some (.tup vs) ∧ F = []
  keep := by
    rintro H H' F ⟨h, rfl⟩ k im
    exact ⟨im.t _ _ h, rfl⟩
  there := by
    rintro H F ⟨h, rfl⟩ b hb
    simp at hb
end LW

/-! THE PROGRAM's small defs -/
namespace LW
open PySem L2

theorem iteD {c A B : Prop} [Decidable c] (hc : ¬ c) (h : B) : if decide c = true then A else B := by rw [decide_eq_false hc]; exact iteF h
theorem iteB {b : Bool} {A B : Prop} (e : b = false) (h : B) : if b = true then A else B := by rw [e]; exact iteF h
theorem iteA {b : Bool} {A B : Prop} (e : b = true) (h : A) : if b = true then A else B := by rw [e]; exact iteT h

theorem lk_hit {k : Str} {v : V} {r : List (Str × V)} : List.lookup k ((k, v) :: r) = some v := by simp [List.lookup_cons]
theorem lk_skip {k k' : Str} {v : V} {r : List (Str × V)} (h : (k == k') = false) : List.lookup k ((k', v) :: r) = List.lookup k r := by simp [List.lookup_cons, h]
section
variable {A : HA} {S : HS}
theorem hf_room : (hFlds A S).lookup ("room" : Str) = some (V.int S.room) := lk_hit
theorem hf_slots : (hFlds A S).lookup ("slots" : Str) = some (V.ref A.sl) := (lk_skip (by decide +kernel)).trans lk_hit
theorem hf_last : (hFlds A S).lookup ("last_name" : Str) = some (V.int S.last) := (lk_skip (by decide +kernel)).trans ((lk_skip (by decide +kernel)).trans lk_hit)
theorem hf_kinds : (hFlds A S).lookup ("kinds" : Str) = some (V.ref A.kd) := (lk_skip (by decide +kernel)).trans ((lk_skip (by decide +kernel)).trans ((lk_skip (by decide +kernel)).trans lk_hit))
theorem hf_fields : (hFlds A S).lookup ("fields" : Str) = some (V.ref A.fd) := (lk_skip (by decide +kernel)).trans ((lk_skip (by decide +kernel)).trans ((lk_skip (by decide +kernel)).trans ((lk_skip (by decide +kernel)).trans lk_hit)))
/-- a name that is none of the attributes -/
def notFld (m : Str) : Bool := (["room", "slots", "last_name", "kinds", "fields", "queues", "told"] : List Str).all fun x => !(m == x)
theorem hf_none {m : Str} (h : notFld m = true) : (hFlds A S).lookup m = none := by
  simp only [notFld, List.all_cons, List.all_nil, Bool.and_true, Bool.and_eq_true, Bool.not_eq_true'] at h
  obtain ⟨h1, h2, h3, h4, h5, h6, h7⟩ := h
  exact (lk_skip h1).trans ((lk_skip h2).trans ((lk_skip h3).trans ((lk_skip h4).trans ((lk_skip h5).trans ((lk_skip h6).trans ((lk_skip h7).trans rfl))))))
end
/-- what the walk asks of the class House and of the built-ins' names -/
structure HTxt (K : PySem.W.Frag) (mg : Str → Option Value) (C : Addr) : Prop where
  cl : Cls K C
  n_room : NoAttr K C "room"
  n_slots : NoAttr K C "slots"
  n_last : NoAttr K C "last_name"
  n_kinds : NoAttr K C "kinds"
  n_fields : NoAttr K C "fields"
  n_queues : NoAttr K C "queues"
  n_told : NoAttr K C "told"
  g_house : mg "House" = some (.ref C)
  g_len : mg "len" = none
  g_sorted : mg "sorted" = none
  g_range : mg "range" = none
  g_list : mg "list" = none
  g_isi : mg "isinstance" = none
  g_guards : ∃ t, mg "GUARDS" = some (.int 4 t)
/-- a method, a def of the text with its promise: ds the ends of its defaults by which it may be called -/
def MethOk (P : Program) (w : World) (K : PySem.W.Frag) (mg : Str → Option Value) (base : Heap) (C : Addr) (k : Nat) (m : Str) (ps : List Str) (sp : Sp) (dss : List (List Value)) : Prop :=
  ∃ f fd, Meth K C m f ∧ FnOk P w K mg base CX0 k f fd ps sp ∧ ∀ ds ∈ dss, Binds K fd ps ds
def DefOk (P : Program) (w : World) (K : PySem.W.Frag) (mg : Str → Option Value) (base : Heap) (k : Nat) (x : Str) (ps : List Str) (sp : Sp) (dss : List (List Value)) : Prop :=
  ∃ f fd, mg x = some (.ref f) ∧ PySem.W.keepIn K (.ref f) = true ∧ FnOk P w K mg base CX0 k f fd ps sp ∧ ∀ ds ∈ dss, Binds K fd ps ds

section
variable {P : Program} {w : World} {K : PySem.W.Frag} {mg : Str → Option Value} {base : Heap} {C : Addr}
def spCheckSlot (C : Addr) : Sp := fun vs H Q _ => ∃ p A S i, vs = [.ref p, .int i] ∧ HouseAt C H p A S ∧ 0 ≤ i ∧ i < S.slots.length ∧ Q .non H
end
end LW

namespace LW
open PySem L2
section
variable {C : Addr} {H : Hp} {p : Addr} {A : HA} {S : HS}
/-- the i-th box: what the two dicts say of its name -/
theorem kindsD_keys (bs : List Box) : (kindsD bs).map (·.1) = (bs.map (·.name)).map fun n => (Sum.inl n : Key) := by
  simp [kindsD, List.map_map, Function.comp_def]
theorem fieldsD_keys {bs : List Box} {fl : List Addr} (h : bs.length = fl.length) : (fieldsD bs fl).map (·.1) = (bs.map (·.name)).map fun n => (Sum.inl n : Key) := by
  unfold fieldsD
  rw [List.map_map, List.map_map]
  have : ((fun x : Key × V => x.1) ∘ fun q : Box × Addr => ((Sum.inl q.1.name : Key), V.ref q.2)) = (fun b : Box => (Sum.inl b.name : Key)) ∘ Prod.fst := rfl
  rw [this, ← List.map_map, List.map_fst_zip (by omega)]
  rfl
theorem nd_keys {l : List Int} (h : l.Nodup) : (l.map fun n => (Sum.inl n : Key)).Nodup := by
  induction l with
  | nil => exact List.nodup_nil
  | cons a r ih =>
    obtain ⟨h1, h2⟩ := List.nodup_cons.mp h
    rw [List.map_cons]
    refine List.nodup_cons.mpr ⟨fun m => h1 ?_, ih h2⟩
    obtain ⟨b, hb, e⟩ := List.mem_map.mp m
    rw [← Sum.inl.inj e]; exact hb
theorem HouseAt.ndK (h : HouseAt C H p A S) : ((kindsD S.boxes).map (·.1)).Nodup := by rw [kindsD_keys]; exact nd_keys h.nm
theorem HouseAt.ndF (h : HouseAt C H p A S) : ((fieldsD S.boxes A.fl).map (·.1)).Nodup := by rw [fieldsD_keys (pr_len h.fl)]; exact nd_keys h.nm
theorem HouseAt.kindAt (h : HouseAt C H p A S) {i : Nat} {b : Box} (e : S.boxes[i]? = some b) : valV (kindsD S.boxes) (Sum.inl b.name) = some (.str b.kind) := by
  refine valV_at h.ndK (i := i) ?_
  simp [kindsD, e]
theorem HouseAt.rowAt (h : HouseAt C H p A S) {i : Nat} {b : Box} (e : S.boxes[i]? = some b) : ∃ a ws, A.fl[i]? = some a ∧ H a = some (.lst ws) ∧ Ths H b.row ws ∧ valV (fieldsD S.boxes A.fl) (Sum.inl b.name) = some (.ref a) := by
  obtain ⟨a, ha, ws, hw, ht⟩ := pr_get h.fl e
  refine ⟨a, ws, ha, hw, ht, valV_at h.ndF (i := i) ?_⟩
  unfold fieldsD
  rw [List.getElem?_map, List.getElem?_zip_eq_some.mpr (show S.boxes[i]? = some (b, a).1 ∧ A.fl[i]? = some (b, a).2 from ⟨e, ha⟩)]
  rfl
theorem HouseAt.noName (h : HouseAt C H p A S) {n : Int} (e : ¬ n ∈ S.boxes.map (·.name)) : valV (kindsD S.boxes) (Sum.inl n) = none := by
  refine valV_out ?_
  rw [kindsD_keys]
  intro m
  obtain ⟨b, hb, q⟩ := List.mem_map.mp m
  rw [Sum.inl.inj q] at hb
  exact e hb
end
section
variable {P : Program} {w : World} {K : PySem.W.Frag} {mg : Str → Option Value} {base : Heap} {C : Addr}
def spCheckBox (C : Addr) : Sp := fun vs H Q _ => ∃ p A S n, vs = [.ref p, .int n] ∧ HouseAt C H p A S ∧ n ∈ S.boxes.map (·.name) ∧ Q .non H
def spCheckField (C : Addr) : Sp := fun vs H Q _ => ∃ (p : Addr) (A : HA) (S : HS) (i : Nat) (b : Box) (at_ : Int), vs = [.ref p, .int b.name, .int at_] ∧ HouseAt C H p A S ∧ S.boxes[i]? = some b ∧ 0 ≤ at_ ∧ at_ < b.row.length ∧ Q .non H
def spHasRoom (C : Addr) : Sp := fun vs H Q _ => ∃ (p : Addr) (A : HA) (S : HS) (n : Int), vs = [.ref p, .int n] ∧ HouseAt C H p A S ∧ Q (.bl (decide ((S.boxes.length : Int) + n ≤ S.room))) H
/-- room is there: no sweep -/
def spMakeRoom0 (C : Addr) : Sp := fun vs H Q _ => ∃ (p : Addr) (A : HA) (S : HS) (n : Int) (v : V), vs = [.ref p, .int n, v] ∧ HouseAt C H p A S ∧ (S.boxes.length : Int) + n ≤ S.room ∧ Q .non H
def names (S : HS) : List Int := S.boxes.map (·.name)
theorem perm_asc : ∀ {a b : List Int}, a.Perm b → a.Pairwise (· ≤ ·) → b.Pairwise (· < ·) → a = b
  | [], b, h, _, _ => (List.nil_perm.mp h).symm
  | x :: a, [], h, _, _ => by simpa using h.length_eq
  | x :: a, y :: b, h, h1, h2 => by
    have e : x = y := by
      obtain ⟨p1, _⟩ := List.pairwise_cons.mp h1
      obtain ⟨p2, _⟩ := List.pairwise_cons.mp h2
      have m1 : x ∈ y :: b := h.mem_iff.mp List.mem_cons_self
      have m2 : y ∈ x :: a := h.mem_iff.mpr List.mem_cons_self
      rcases List.mem_cons.mp m1 with q | q
      · exact q
      · have l1 := p2 x q
        rcases List.mem_cons.mp m2 with r | r
        · exact r.symm
        · have l2 := p1 y r
          omega
    subst e
    rw [perm_asc ((List.perm_cons x).mp h) (List.pairwise_cons.mp h1).2 (List.pairwise_cons.mp h2).2]
def spNames (C : Addr) : Sp := fun vs H Q _ => ∃ p A S, vs = [.ref p] ∧ HouseAt C H p A S ∧ S.boxes.length < 64 ∧ ∀ l, H l = none → Q (.ref l) (upd H l (.lst ((names S).map V.int)))
def spKind (C : Addr) : Sp := fun vs H Q _ => ∃ (p : Addr) (A : HA) (S : HS) (i : Nat) (b : Box), vs = [.ref p, .int b.name] ∧ HouseAt C H p A S ∧ S.boxes[i]? = some b ∧ Q (.str b.kind) H
theorem in_names {S : HS} {i : Nat} {b : Box} (h : S.boxes[i]? = some b) : b.name ∈ S.boxes.map (·.name) := List.mem_map.mpr ⟨b, List.mem_of_getElem? h, rfl⟩
def spSize (C : Addr) : Sp := fun vs H Q _ => ∃ (p : Addr) (A : HA) (S : HS) (i : Nat) (b : Box), vs = [.ref p, .int b.name] ∧ HouseAt C H p A S ∧ S.boxes[i]? = some b ∧ Q (.int b.row.length) H
def spField (C : Addr) : Sp := fun vs H Q _ => ∃ (p : Addr) (A : HA) (S : HS) (i : Nat) (b : Box) (j : Nat) (t : T), vs = [.ref p, .int b.name, .int j] ∧ HouseAt C H p A S ∧ S.boxes[i]? = some b ∧ b.row[j]? = some t ∧ ∀ v, isT H t v → Q v H
def spHeld (C : Addr) : Sp := fun vs H Q _ => ∃ (p : Addr) (A : HA) (S : HS) (j : Nat) (t : T), vs = [.ref p, .int j] ∧ HouseAt C H p A S ∧ S.slots[j]? = some t ∧ ∀ v, isT H t v → Q v H
end
end LW

namespace LW
open PySem L2
/-! ### new boxes -/
def sizeOf (kind : Str) (size : Int) : Int := if kind = "weak" then 1 else if kind = "pair" then 2 else size
def HS.built (S : HS) (kind : Str) (n : Nat) : HS := { S with last := S.last + 1, boxes := S.boxes ++ [(⟨S.last + 1, kind, List.replicate n .non⟩ : Box)] }
theorem hFlds_put (A : HA) (S : HS) (z : Int) : putF "last_name" (.int z) (hFlds A S) = hFlds A { S with last := z } := by
  have n1 : ¬ (("room" : Str) = "last_name") := by decide +kernel
  have n2 : ¬ (("slots" : Str) = "last_name") := by decide +kernel
  simp only [hFlds, putF, if_neg n1, if_neg n2, if_pos]
theorem nodup_mid {l : Addr} {a b r : List Addr} (h : (a ++ b ++ r).Nodup) (hl : l ∉ a ++ b ++ r) : (a ++ (b ++ [l]) ++ r).Nodup := by
  have e : a ++ (b ++ [l]) ++ r = (a ++ b) ++ l :: r := by simp
  rw [e, List.perm_middle.nodup_iff]
  exact List.nodup_cons.mpr ⟨hl, h⟩
theorem HouseAt.built {C : Addr} {H H' : Hp} {p : Addr} {A : HA} {S : HS} {l : Addr} {kind : Str} {n : Nat} (h : HouseAt C H p A S) (h1 : H' p = some (.ins C A.dx (hFlds A { S with last := S.last + 1 })))
    (h2 : H' A.kd = some (.dK (kindsD S.boxes ++ [((Sum.inl (S.last + 1) : Key), V.str kind)]))) (h3 : H' A.fd = some (.dK (fieldsD S.boxes A.fl ++ [((Sum.inl (S.last + 1) : Key), V.ref l)]))) (h4 : H' l = some (.lst (List.replicate n .non)))
    (hl : l ∉ A.lists) (hk : ∀ b ∈ A.lists, H' b = H b) (ht : Tups H H') : HouseAt C H' p { A with fl := A.fl ++ [l] } (S.built kind n) where
  ob := h1
  sl := h.sl.keep ht (hk _ (by simp [HA.lists]))
  kd := by rw [h2]; simp [kindsD, HS.built]
  fd := by
    rw [h3]
    show _ = some (HO.dK (((S.boxes ++ [(⟨S.last + 1, kind, List.replicate n .non⟩ : Box)]).zip (A.fl ++ [l])).map _))
    rw [List.zip_append (pr_len h.fl)]
    simp [fieldsD]
  fl := pr_app (pr_imp (fun b a _ ha z => z.keep ht (hk _ (by simp [HA.lists, ha]))) h.fl) (.cons ⟨_, h4, pr_rep (show isT H' .non .non from rfl) n⟩ .nil)
  qs := (hk _ (by simp [HA.lists])).trans h.qs
  ql := pr_imp (fun b a _ ha z => (hk _ (by simp [HA.lists, ha])).trans z) h.ql
  td := (hk _ (by simp [HA.lists])).trans h.td
  tl := pr_imp (fun b a _ ha z => (hk _ (by simp [HA.lists, ha])).trans z) h.tl
  nd := by
    have e : HA.lists A = [A.sl, A.qs, A.td] ++ A.fl ++ (A.ql ++ A.tl) := by simp [HA.lists]
    have e2 : HA.lists { A with fl := A.fl ++ [l] } = [A.sl, A.qs, A.td] ++ (A.fl ++ [l]) ++ (A.ql ++ A.tl) := by simp [HA.lists]
    have nd := h.nd
    rw [e] at nd hl
    rw [e2]
    exact nodup_mid nd hl
  kf := h.kf
  asc := by
    show ((S.boxes ++ [(⟨S.last + 1, kind, List.replicate n .non⟩ : Box)]).map (·.name)).Pairwise (· < ·)
    rw [List.map_append, List.pairwise_append]
    refine ⟨h.asc, List.pairwise_singleton _ _, fun x hx y hy => ?_⟩
    obtain ⟨b, hb, rfl⟩ := List.mem_map.mp hx
    have hy : y = S.last + 1 := by simpa using hy
    have := h.top b hb
    omega
  top := fun b hb => by
    have hb : b ∈ S.boxes ++ [(⟨S.last + 1, kind, List.replicate n .non⟩ : Box)] := hb
    show b.name ≤ S.last + 1
    rcases List.mem_append.mp hb with q | q
    · have := h.top b q; omega
    · have q : b = ⟨S.last + 1, kind, List.replicate n .non⟩ := by simpa using q
      subst q
      exact Int.le_refl _
def fixed : List (Key × V) := [(Sum.inr "weak", .int 1), (Sum.inr "pair", .int 2)]
theorem fixed_get (kind : Str) (size : Int) : (valV fixed (Sum.inr kind)).getD (.int size) = V.int (sizeOf kind size) := by
  unfold fixed sizeOf
  by_cases h1 : kind = "weak"
  · subst h1
    rw [valV_pos rfl, if_pos rfl]
    rfl
  · rw [valV_neg (fun e => h1 (Sum.inr.inj e).symm), if_neg h1]
    by_cases h2 : kind = "pair"
    · subst h2
      rw [valV_pos rfl, if_pos rfl]
      rfl
    · rw [valV_neg (fun e => h2 (Sum.inr.inj e).symm), if_neg h2]
      rfl
theorem flat_rep (n : Nat) : (List.replicate n [V.non]).flatten = List.replicate n V.non := by
  induction n with
  | zero => rfl
  | succ n ih => rw [List.replicate_succ, List.flatten_cons, ih, List.replicate_succ]; rfl
section
variable {P : Program} {w : World} {K : PySem.W.Frag} {mg : Str → Option Value} {base : Heap} {C : Addr}
/-- the ends of a call that changes a house -/
def Out (C : Addr) (H : Hp) (p : Addr) (A : HA) (S' : HS) (Q : V → Hp → Prop) (v : V) : Prop := ∀ A' H', HouseAt C H' p A' S' → Frame (A.foot p) H H' → Tups H H' → Grown (A.foot p) (A'.foot p) H → Q v H'

def spBoxThing : Sp := fun vs H Q _ => ∃ n, vs = [.int n] ∧ ∀ a, H a = none → Q (.ref a) (upd H a (.tup [.str "box", .int n]))
/-- a slot is given another thing -/
theorem HouseAt.setSlot {H : Hp} {p : Addr} {A : HA} {S : HS} {ws : List V} {j : Nat} {t : T} {v : V} (h : HouseAt C H p A S) (hw : H A.sl = some (.lst ws)) (ht : Ths H S.slots ws) (tv : isT H t v) :
    HouseAt C (upd H A.sl (.lst (ws.set j v))) p A { S with slots := S.slots.set j t } := by
  have tu : Tups H (upd H A.sl (.lst (ws.set j v))) := Tups.upd hw (by intro xs z; cases z)
  have nd : A.sl ∉ A.qs :: A.td :: (A.fl ++ (A.ql ++ A.tl)) := (List.nodup_cons.mp h.nd).1
  have ne : ∀ b ∈ A.qs :: A.td :: (A.fl ++ (A.ql ++ A.tl)), b ≠ A.sl := fun b hb e => nd (e ▸ hb)
  refine ⟨?_, ⟨_, upd_same, Ths.keep tu (pr_set tv j ht)⟩, ?_, ?_, pr_imp (fun b a _ ha z => z.keep tu (upd_ne (ne _ (by simp [ha])))) h.fl, ?_, pr_imp (fun b a _ ha z => (upd_ne (ne _ (by simp [ha]))).trans z) h.ql, ?_,
    pr_imp (fun b a _ ha z => (upd_ne (ne _ (by simp [ha]))).trans z) h.tl, h.nd, h.kf, h.asc, h.top⟩
  · rw [upd_ne (ne_of h.ob hw (by intro z; cases z))]; exact h.ob
  · rw [upd_ne (ne_of h.kd hw (by intro z; cases z))]; exact h.kd
  · rw [upd_ne (ne_of h.fd hw (by intro z; cases z))]; exact h.fd
  · rw [upd_ne (ne _ (by simp))]; exact h.qs
  · rw [upd_ne (ne _ (by simp))]; exact h.td
def HS.made (S : HS) (kind : Str) (n slot : Nat) : HS := { S.built kind n with slots := S.slots.set slot (.box (S.last + 1)) }
/-- make where there is room -/
def spMake0 (C : Addr) : Sp := fun vs H Q _ => ∃ (p : Addr) (A : HA) (S : HS) (kind : Str) (size : Int) (slot : Nat), vs = [.ref p, .str kind, .int size, .int slot] ∧ HouseAt C H p A S ∧ 0 ≤ sizeOf kind size ∧ sizeOf kind size ≤ 1000 ∧ S.boxes.length ≤ 1000 ∧ (S.boxes.length : Int) < S.room ∧
  slot < S.slots.length ∧ Out C H p A (S.made kind (sizeOf kind size).toNat slot) Q (.int (S.last + 1))
/-- one new box, of a draft of one row with nothing in its fields -/
def spBuild1 (C : Addr) : Sp := fun vs H Q _ => ∃ (p : Addr) (A : HA) (S : HS) (kind : Str) (n slot : Nat) (ad at_ al : Addr), vs = [.ref p, .ref ad, .int slot] ∧ HouseAt C H p A S ∧ H ad = some (.lst [.ref at_]) ∧ H at_ = some (.tup [.str kind, .ref al]) ∧
  H al = some (.lst (List.replicate n .non)) ∧ n ≤ 1000 ∧ S.boxes.length ≤ 1000 ∧ (S.boxes.length : Int) < S.room ∧ slot < S.slots.length ∧ Out C H p A (S.made kind n slot) Q (.int (S.last + 1))
theorem ixN_nat {n j : Nat} (h : j < n) : ixN n (j : Int) = some j := by
  unfold ixN
  rw [if_pos (by omega), if_pos (by omega)]
  simp
end
end LW

namespace LW
open PySem L2
/-! ### the text by places -/
def stAt (l : List Stmt) (i : Nat) : Stmt := l.getD i (.Pass ⟨0, 0, 0, 0⟩)
def asgVal : Stmt → Expr
  | .Assign _ v _ => v
  | _ => .Constant .none 0 ⟨0, 0, 0, 0⟩
def retVal : Stmt → Expr
  | .Return (some v) _ => v
  | _ => .Constant .none 0 ⟨0, 0, 0, 0⟩
def callArg (i : Nat) : Expr → Expr
  | .Call _ args _ _ => args.getD i (.Constant .none 0 ⟨0, 0, 0, 0⟩)
  | _ => .Constant .none 0 ⟨0, 0, 0, 0⟩
def forBody : Stmt → List Stmt
  | .For _ _ b _ _ => b
  | _ => []
def compScope : Expr → Scope
  | .ListComp _ _ sc _ => sc
  | _ => { kind := .function, names := [], isGenerator := false, isCoroutine := false }
/-- [[] for guard in range(4)] -/
theorem comp4 {σ : St} {H : Hp} {Q : VK} (k : ∀ (as : List Addr) (H' : Hp), as.length = 4 → as.Nodup → (∀ a ∈ as, H a = none ∧ H' a = some (.lst [])) → Same H H' → ∀ p, H' p = none → Q (.ref p) (upd H' p (.lst (as.map V.ref)))) :
    tComp (iRng1 (tCons (tC (.int 4)) tNil)) [] tNoIf (tLst tNil) σ H Q := by
  refine ⟨4, rfl, by decide, by decide, comp_range (lo := 0) (n := 4) (fun i ys H' => ∃ as : List Addr, ys = as.map V.ref ∧ as.length = i ∧ as.Nodup ∧ (∀ a ∈ as, H a = none ∧ H' a = some (.lst [])) ∧ Same H H')
    ⟨[], rfl, rfl, List.nodup_nil, by simp, Same.refl _⟩ ?_ (by decide) ?_ ?_⟩
  · rintro i ys H' ⟨as, rfl, hl, _⟩
    rw [List.length_map]; omega
  · rintro i ys H' hi ⟨as, rfl, hl, nd, ha, hs⟩
    dsimp only [tNoIf]
    refine iteT ⟨by decide, fun p hp => ⟨as ++ [p], by simp, by simp [hl], ?_, fun a ha' => ?_, fun b o q => ?_⟩⟩
    · refine nd_snoc nd fun m => ?_
      rw [(ha p m).2] at hp; cases hp
    · rcases List.mem_append.mp ha' with q | q
      · exact ⟨(ha a q).1, by rw [upd_ne (ne_of_none (ha a q).2 hp)]; exact (ha a q).2⟩
      · have q : a = p := by simpa using q
        subst q
        exact ⟨hs.free hp, upd_same⟩
    · rw [upd_ne (ne_of_none (hs b o q) hp)]
      exact hs b o q
  · rintro ys H' ⟨as, rfl, hl, nd, ha, hs⟩ p hp
    exact k as H' hl nd ha hs p hp
def HS.empty (room : Int) (n : Nat) : HS := ⟨room, List.replicate n .non, 0, [], [[], [], [], []], [[], [], [], []]⟩
theorem init_flds (room : Int) (sl kd fd qs td : Addr) : putF "told" (V.ref td) (putF "queues" (V.ref qs) (putF "fields" (V.ref fd) (putF "kinds" (V.ref kd) (putF "last_name" (V.int 0) (putF "slots" (V.ref sl) (putF "room" (V.int room) [])))))) =
    ([("room", .int room), ("slots", .ref sl), ("last_name", .int 0), ("kinds", .ref kd), ("fields", .ref fd), ("queues", .ref qs), ("told", .ref td)] : List (Str × V)) := by kernel_rfl
theorem paired4 {α β : Type} {F : α → β → Prop} {x : α} {l : List β} (hl : l.length = 4) (h : ∀ y ∈ l, F x y) : Paired F [x, x, x, x] l := by
  match l, hl, h with
  | [a, b, c, d], _, h => exact .cons (h a (by simp)) (.cons (h b (by simp)) (.cons (h c (by simp)) (.cons (h d (by simp)) .nil)))
theorem kp_p {p b : Addr} {H : Hp} {o u : HO} (h : H b = some u) (n : b ≠ p) : upd H p o b = some u := by rw [upd_ne n]; exact h
theorem kp_n {a b : Addr} {H : Hp} {o u : HO} (h : H b = some u) (n : H a = none) : upd H a o b = some u := by rw [upd_ne (ne_of_none h n)]; exact h
theorem un_p {a b : Addr} {H : Hp} {o : HO} (h : upd H a o b = none) : H b = none := by
  have : b ≠ a := fun e => by subst e; rw [upd_same] at h; cases h
  rw [upd_ne this] at h
  exact h
section
variable {P : Program} {w : World} {K : PySem.W.Frag} {mg : Str → Option Value} {base : Heap} {C : Addr}
def spInit (C : Addr) : Sp := fun vs H Q _ => ∃ (p dx : Addr) (room n : Int), vs = [.ref p, .int room, .int n] ∧ H p = some (.ins C dx []) ∧ 0 ≤ n ∧ n ≤ 1000 ∧
  ∀ A' H', HouseAt C H' p A' (HS.empty room n.toNat) → Frame [p] H H' → Tups H H' → Grown [p] (A'.foot p) H → Q .non H'
end
end LW

/-! THE LAWS' small defs -/
namespace LW
open PySem L2
/-- the script: one list of ints, never changed -/
def Scr (K : PySem.W.Frag) (H : Hp) (a : Addr) (ns : List Int) : Prop :=
  (∃ o, H a = some (.frz o (.lst (ns.map V.int)))) ∨
    ∃ (o : Obj) (its : Array Value) (n : Nat), K.lookup a = some o ∧ o.cls = .type "list" ∧ o.dict = none ∧ o.data = .seq its n ∧ its.size ≤ sizeLine ∧ Vals (ns.map V.int) its.toList
theorem Scr.sq {K : PySem.W.Frag} {H : Hp} {a : Addr} {ns : List Int} (h : Scr K H a ns) : SqL K H a (ns.map V.int) := by
  rcases h with ⟨o, h⟩ | h
  · exact .inl (.inr ⟨o, h⟩)
  · exact .inr h
theorem Scr.of {K : PySem.W.Frag} {H : Hp} {a : Addr} {ns : List Int} (hO : Only H) (h : SqL K H a (ns.map V.int)) : Scr K H a ns := by
  rcases h with (h | ⟨o, h⟩) | h
  · rcases hO a with z | ⟨o, xs, z⟩
    · rw [h] at z; cases z
    · rw [h] at z; cases z
  · exact .inl ⟨o, h⟩
  · exact .inr h
/-- what is frozen stays -/
def Frz (H H' : Hp) : Prop := ∀ b o u, H b = some (.frz o u) → H' b = some (.frz o u)
theorem Frz.refl (H : Hp) : Frz H H := fun _ _ _ h => h
theorem Frz.trans {H H1 H2 : Hp} (a : Frz H H1) (b : Frz H1 H2) : Frz H H2 := fun c o u h => b c o u (a c o u h)
theorem Frz.of_same {H H' : Hp} (s : Same H H') : Frz H H' := fun b _ _ h => s b _ h
theorem Frz.new {H : Hp} {a : Addr} {o : HO} (h : H a = none) : Frz H (upd H a o) := fun b _ _ q => by rw [upd_ne (ne_of_none q h)]; exact q
theorem Frz.upd {H : Hp} {a : Addr} {o o' : HO} (h : H a = some o') (n : ∀ x u, o' ≠ .frz x u) : Frz H (L2.upd H a o) := fun b x u q => by
  rw [upd_ne]
  · exact q
  · rintro rfl
    rw [h] at q
    cases q
    exact n x u rfl
theorem Scr.keep {K : PySem.W.Frag} {H H' : Hp} {a : Addr} {ns : List Int} (f : Frz H H') (h : Scr K H a ns) : Scr K H' a ns := by
  rcases h with ⟨o, h⟩ | h
  · exact .inl ⟨o, f _ _ _ h⟩
  · exact .inr h
theorem HouseAt.frz {C : Addr} {H H' : Hp} {p : Addr} {A : HA} {S : HS} (h : HouseAt C H p A S) (f : Frame (A.foot p) H H') : Frz H H' := fun b o u q => f b _ q fun m => by
  have m : b = p ∨ b = A.kd ∨ b = A.fd ∨ b ∈ A.lists := by simpa [HA.foot] using m
  rcases m with e | e | e | e
  · subst e; rw [h.ob] at q; cases q
  · subst e; rw [h.kd] at q; cases q
  · subst e; rw [h.fd] at q; cases q
  · obtain ⟨vs, z⟩ := h.isL b e
    rw [z] at q; cases q

/-- what the walk asks of the built-ins' names and types -/
structure LTxt (K : PySem.W.Frag) (mg : Str → Option Value) : Prop where
  g_len : mg "len" = none
  g_range : mg "range" = none
  g_list : mg "list" = none
  g_isi : mg "isinstance" = none
  g_int : mg "int" = none
  g_bool : mg "bool" = none
  g_tuple : mg "tuple" = none
  g_str : mg "str" = none
  g_sorted : mg "sorted" = none
  g_enumerate : mg "enumerate" = none
  s_ib : PySem.W.subIn K (.type "int") (.type "bool") = some false
  s_it : PySem.W.subIn K (.type "int") (.type "tuple") = some false
theorem kit_same (K : PySem.W.Frag) (n : String) : PySem.W.kitOne K (.type n) (.type n) = some true := by
  unfold PySem.W.kitOne
  rw [if_pos (by simp)]
theorem kit_sub {K : PySem.W.Frag} {t : Value} {n : String} {b : Bool} (h : (t == Value.type n) = false) (m : PySem.W.kitMeta n = true) (s : PySem.W.subIn K t (.type n) = some b) : PySem.W.kitOne K t (.type n) = some b := by
  unfold PySem.W.kitOne PySem.W.kitCls
  rw [if_neg (by rw [h]; exact Bool.false_ne_true)]
  show (if PySem.W.kitMeta n = true then PySem.W.subIn K t (.type n) else none) = some b
  rw [if_pos m]
  exact s
section
variable {P : Program} {w : World} {K : PySem.W.Frag} {mg : Str → Option Value} {base : Heap}
def spWhole : Sp := fun vs H Q _ => ∃ i : Int, vs = [.int i] ∧ Q (.bl true) H
end
end LW

/-! ### the text by places, more -/
namespace LW
open PySem L2
def nowhere : PySem.Expr := .Constant .none 0 ⟨0, 0, 0, 0⟩
def ifTest : Stmt → PySem.Expr | .If t _ _ _ => t | _ => nowhere
def ifBody : Stmt → List Stmt | .If _ b _ _ => b | _ => []
structure TX (K : PySem.W.Frag) (mg : Str → Option Value) (C : Addr) : Prop extends HTxt K mg C, LTxt K mg
def MakeOk (P : Program) (w : World) (K : PySem.W.Frag) (mg : Str → Option Value) (base : Heap) (C : Addr) (k : Nat) (ps : List Str) (sp : Sp) (dss : List (List Value)) : Prop :=
  ∃ f fd j, j + 1 ≤ k ∧ Mk K C f ∧ FnOk P w K mg base CX0 j f fd ps sp ∧ ∀ ds ∈ dss, Binds K fd ps ds
section
variable {P : Program} {w : World} {K : PySem.W.Frag} {mg : Str → Option Value} {base : Heap} {C : Addr} {j k : Nat} {m x : Str} {ps : List Str} {sp : Sp} {dss : List (List Value)}
theorem MethOk.mono (h : MethOk P w K mg base C j m ps sp dss) (e : j ≤ k) : MethOk P w K mg base C k m ps sp dss := let ⟨f, fd, a, b, c⟩ := h; ⟨f, fd, a, b.mono e, c⟩
theorem DefOk.mono (h : DefOk P w K mg base j x ps sp dss) (e : j ≤ k) : DefOk P w K mg base k x ps sp dss := let ⟨f, fd, a, a', b, c⟩ := h; ⟨f, fd, a, a', b.mono e, c⟩
theorem MakeOk.mono (h : MakeOk P w K mg base C j ps sp dss) (e : j ≤ k) : MakeOk P w K mg base C k ps sp dss := let ⟨f, fd, i, hi, a, b, c⟩ := h; ⟨f, fd, i, Nat.le_trans hi e, a, b, c⟩
end
/-! ### the house among the roots -/
section
variable {C p : Addr} {H H' : Hp} {A A' : HA} {S S' : HS} {W : List Rt} {i : Nat}
theorem HA.footNd (h : HouseAt C H p A S) : (A.foot p).Nodup := by
  have n1 : ∀ b ∈ A.lists, b ≠ p := fun b hb e => by
    obtain ⟨vs, z⟩ := h.isL b hb
    rw [e, h.ob] at z; cases z
  have n2 : ∀ b ∈ A.lists, b ≠ A.kd := fun b hb e => by
    obtain ⟨vs, z⟩ := h.isL b hb
    rw [e, h.kd] at z; cases z
  have n3 : ∀ b ∈ A.lists, b ≠ A.fd := fun b hb e => by
    obtain ⟨vs, z⟩ := h.isL b hb
    rw [e, h.fd] at z; cases z
  have e1 : p ≠ A.kd := ne_of h.ob h.kd (by intro z; cases z)
  have e2 : p ≠ A.fd := ne_of h.ob h.fd (by intro z; cases z)
  show (p :: A.kd :: A.fd :: A.lists).Nodup
  refine List.nodup_cons.mpr ⟨fun m => ?_, List.nodup_cons.mpr ⟨fun m => ?_, List.nodup_cons.mpr ⟨fun m => n3 _ m rfl, h.nd⟩⟩⟩
  · rcases List.mem_cons.mp m with q | m
    · exact e1 q
    · rcases List.mem_cons.mp m with q | m
      · exact e2 q
      · exact n1 _ m rfl
  · rcases List.mem_cons.mp m with q | m
    · exact h.kf q
    · exact n2 _ m rfl
theorem Own.house (w : Own H W) (h : W[i]? = some (rHouse C p S)) : ∃ A, HouseAt C H p A S := by
  obtain ⟨F, A, q, _⟩ := w.get h
  exact ⟨A, q⟩
/-- behind a call that changes the house -/
theorem Own.houseOut (w : Own H W) (h : W[i]? = some (rHouse C p S)) : ∃ A, HouseAt C H p A S ∧
    ∀ A' H' S', HouseAt C H' p A' S' → Frame (A.foot p) H H' → Tups H H' → Grown (A.foot p) (A'.foot p) H → Own H' (W.set i (rHouse C p S')) := by
  obtain ⟨F, G, ⟨A, hh, rfl⟩, nd, dj, th, fin⟩ := w.chg h
  refine ⟨A, hh, fun A' H' S' hh' fr tu gr => fin H' _ (A'.foot p) ⟨A', hh', rfl⟩ (HA.footNd hh') gr (fun b hb => ?_) ⟨tu, hh.frz fr⟩⟩
  obtain ⟨o, e⟩ := th b hb
  rw [e]
  exact fr b o e fun m => dj b m hb
/-- a new house -/
theorem Own.houseNew (w : Own H W) (hh : HouseAt C H' p A S) (fr : Frame [] H H') (n : ∀ b ∈ A.foot p, H b = none) : Own H' (rHouse C p S :: W) := by
  obtain ⟨Fs, pr, nd⟩ := w
  have im : Same H H' := fun b o q => fr b o q (by simp)
  have out : ∀ b ∈ A.foot p, b ∉ Fs.flatten := fun b hb z => by
    obtain ⟨F, hF, hb2⟩ := List.mem_flatten.mp z
    obtain ⟨j, hj⟩ := List.getElem?_of_mem hF
    obtain ⟨r, _, q⟩ := pr_getR pr hj
    obtain ⟨o, e⟩ := r.there q b hb2
    rw [n b hb] at e; cases e
  refine ⟨A.foot p :: Fs, .cons ⟨A, hh, rfl⟩ (pr_imp (fun r F _ _ z => r.keep z (fun b hb => ?_) (Imm.same im)) pr), ?_⟩
  · obtain ⟨o, e⟩ := r.there z b hb
    rw [e]; exact im _ _ e
  · rw [List.flatten_cons]
    exact List.nodup_append.mpr ⟨HA.footNd hh, nd, fun x hx y hy e => out x hx (e ▸ hy)⟩
end
/-! ### a field of a box is given another thing -/
def setRow (bs : List Box) (i at_ : Nat) (t : T) : List Box := bs.modify i fun b => { b with row := b.row.set at_ t }
def HS.put (S : HS) (i at_ : Nat) (t : T) : HS := { S with boxes := setRow S.boxes i at_ t }
theorem setRow_name (bs : List Box) (i at_ : Nat) (t : T) : (setRow bs i at_ t).map (·.name) = bs.map (·.name) := by
  unfold setRow
  refine List.ext_getElem? fun j => ?_
  rw [List.getElem?_map, List.getElem?_map, List.getElem?_modify]
  by_cases e : i = j
  · simp only [e, if_true]
    cases bs[j]? <;> rfl
  · simp only [e, if_false]
    cases bs[j]? <;> rfl
end LW

namespace LW
open PySem L2
theorem vals_n : Vals [V.non] [Value.none] := .cons rfl .nil
end LW

/-! THE PROGRAM's defs: things; put, hold -/
namespace LW
open PySem L2
theorem sub_nt (K : PySem.W.Frag) : PySem.W.kitOne K (.type "NoneType") (.type "tuple") = some false := kit_sub (by decide +kernel) (by decide +kernel) (by rfl)
theorem sub_it (K : PySem.W.Frag) : PySem.W.kitOne K (.type "int") (.type "tuple") = some false := kit_sub (by decide +kernel) (by decide +kernel) (by rfl)
/-- the name of a thing's box -/
def T.nm : T → V
  | .box n => .int n
  | _ => .non
def T.In (t : T) (ns : List Int) : Prop := ∀ n, t = .box n → n ∈ ns
section
variable {P : Program} {w : World} {K : PySem.W.Frag} {mg : Str → Option Value} {base : Heap} {C : Addr}
def spBoxName : Sp := fun vs H Q _ => ∃ (v : V) (t : T), vs = [v] ∧ isT H t v ∧ Q t.nm H
/-- a thing of a draft, with the names that its boxes have now -/
def spRenamed : Sp := fun vs H Q _ => ∃ (v : V) (t : T) (a : Addr) (ns : List Int), vs = [v, .ref a] ∧ isT H t v ∧ H a = some (.lst (ns.map V.int)) ∧
  match t with
  | .box n => ∃ (j : Nat) (m : Int), n = (j : Int) ∧ ns[j]? = some m ∧ ∀ x, H x = none → Q (.ref x) (upd H x (.tup [.str "box", .int m]))
  | _ => Q v H
def spCheckThing (C : Addr) : Sp := fun vs H Q _ => ∃ (p : Addr) (A : HA) (S : HS) (v : V) (t : T), vs = [.ref p, v] ∧ HouseAt C H p A S ∧ isT H t v ∧ t.In (names S) ∧ Q .non H
theorem modify_at {α : Type} {l : List α} {i : Nat} {x : α} (f : α → α) (h : l[i]? = some x) : l.modify i f = l.set i (f x) := by
  refine List.ext_getElem? fun j => ?_
  rw [List.getElem?_modify, List.getElem?_set]
  have hl := (List.getElem?_eq_some_iff.mp h).1
  by_cases e : i = j
  · subst e; rw [h]; simp [hl]
  · simp [e]
theorem kindsD_setRow (bs : List Box) (i at_ : Nat) (t : T) : kindsD (setRow bs i at_ t) = kindsD bs := by
  unfold kindsD setRow
  refine List.ext_getElem? fun j => ?_
  rw [List.getElem?_map, List.getElem?_map, List.getElem?_modify]
  by_cases e : i = j
  · simp only [e, if_true]; cases bs[j]? <;> rfl
  · simp only [e, if_false]; cases bs[j]? <;> rfl
theorem fieldsD_names {bs bs' : List Box} (h : bs'.map (·.name) = bs.map (·.name)) (fl : List Addr) : fieldsD bs' fl = fieldsD bs fl := by
  unfold fieldsD
  have e : ∀ l : List Box, (l.zip fl).map (fun q => ((Sum.inl q.1.name : Key), V.ref q.2)) = (((l.map (·.name)).zip fl).map fun q => ((Sum.inl q.1 : Key), V.ref q.2)) := fun l => by
    rw [List.zip_map_left, List.map_map]; rfl
  rw [e, e, h]
/-- the rows' lists: one is given another thing -/

theorem nd_inj {α : Type} : ∀ {l : List α} {i j : Nat} {x : α}, l.Nodup → l[i]? = some x → l[j]? = some x → i = j
  | [], _, _, _, _, h, _ => by simp at h
  | y :: l, 0, 0, _, _, _, _ => rfl
  | y :: l, 0, j + 1, x, nd, h1, h2 => by
    have e : y = x := by simpa using h1
    exact absurd (List.mem_of_getElem? (show l[j]? = some x by simpa using h2)) (e ▸ (List.nodup_cons.mp nd).1)
  | y :: l, i + 1, 0, x, nd, h1, h2 => by
    have e : y = x := by simpa using h2
    exact absurd (List.mem_of_getElem? (show l[i]? = some x by simpa using h1)) (e ▸ (List.nodup_cons.mp nd).1)
  | y :: l, i + 1, j + 1, x, nd, h1, h2 => by
    exact congrArg (· + 1) (nd_inj (i := i) (j := j) (x := x) (List.nodup_cons.mp nd).2 (by simpa using h1) (by simpa using h2))
theorem rows_put {H H' : Hp} {bs : List Box} {fl : List Addr} {i at_ : Nat} {b : Box} {a : Addr} {ws : List V} {t : T} {v : V} (p : Paired (fun b a => ThL H b.row a) bs fl) (nd : fl.Nodup) (hb : bs[i]? = some b) (ha : fl[i]? = some a)
    (ht : Ths H b.row ws) (tv : isT H t v) (tu : Tups H H') (h1 : H' a = some (.lst (ws.set at_ v))) (h2 : ∀ c ∈ fl, c ≠ a → H' c = H c) : Paired (fun b a => ThL H' b.row a) (setRow bs i at_ t) fl := by
  unfold setRow
  rw [modify_at _ hb]
  have e : fl = fl.set i a := by
    refine List.ext_getElem? fun j => ?_
    rw [List.getElem?_set]
    by_cases q : i = j
    · subst q; rw [ha]; simp [(List.getElem?_eq_some_iff.mp ha).1]
    · simp [q]
  rw [e]
  refine pr_setX p ⟨_, h1, Ths.keep tu (pr_set tv at_ ht)⟩ fun j x c hj hx hc z => z.keep tu (h2 c (List.mem_of_getElem? hc) fun q => ?_)
  subst q
  exact hj (nd_inj nd hc ha)
theorem HouseAt.flNd {H : Hp} {p : Addr} {A : HA} {S : HS} (h : HouseAt C H p A S) : A.fl.Nodup := by
  have n := h.nd
  unfold HA.lists at n
  have n3 := (List.nodup_cons.mp (List.nodup_cons.mp (List.nodup_cons.mp n).2).2).2
  exact (List.nodup_append.mp n3).1
theorem HouseAt.setField {H : Hp} {p : Addr} {A : HA} {S : HS} {i at_ : Nat} {b : Box} {a : Addr} {ws : List V} {t : T} {v : V} (h : HouseAt C H p A S) (hb : S.boxes[i]? = some b) (ha : A.fl[i]? = some a) (hw : H a = some (.lst ws)) (ht : Ths H b.row ws) (tv : isT H t v) :
    HouseAt C (upd H a (.lst (ws.set at_ v))) p A (S.put i at_ t) := by
  have tu : Tups H (upd H a (.lst (ws.set at_ v))) := Tups.upd hw (by intro xs z; cases z)
  have ham := List.mem_of_getElem? ha
  have nd := h.nd
  unfold HA.lists at nd
  obtain ⟨n1, nd⟩ := List.nodup_cons.mp nd
  obtain ⟨n2, nd⟩ := List.nodup_cons.mp nd
  obtain ⟨n3, nd⟩ := List.nodup_cons.mp nd
  obtain ⟨n4, n5, n6⟩ := List.nodup_append.mp nd
  have e1 : A.sl ≠ a := fun e => n1 (by rw [e]; simp [ham])
  have e2 : A.qs ≠ a := fun e => n2 (by rw [e]; simp [ham])
  have e3 : A.td ≠ a := fun e => n3 (by rw [e]; simp [ham])
  have e4 : ∀ c ∈ A.ql, c ≠ a := fun c hc e => n6 a ham c (by simp [hc]) e.symm
  have e5 : ∀ c ∈ A.tl, c ≠ a := fun c hc e => n6 a ham c (by simp [hc]) e.symm
  refine ⟨?_, h.sl.keep tu (upd_ne e1), ?_, ?_, rows_put h.fl h.flNd hb ha ht tv tu upd_same (fun c _ n => upd_ne n), ?_, pr_imp (fun b a _ ha z => (upd_ne (e4 _ ha)).trans z) h.ql, ?_, pr_imp (fun b a _ ha z => (upd_ne (e5 _ ha)).trans z) h.tl, h.nd, h.kf, ?_, ?_⟩
  · rw [upd_ne (ne_of h.ob hw (by intro z; cases z))]; exact h.ob
  · rw [upd_ne (ne_of h.kd hw (by intro z; cases z))]; show _ = some (HO.dK (kindsD (setRow _ _ _ _))); rw [kindsD_setRow]; exact h.kd
  · rw [upd_ne (ne_of h.fd hw (by intro z; cases z))]; show _ = some (HO.dK (fieldsD (setRow _ _ _ _) _)); rw [fieldsD_names (setRow_name _ _ _ _)]; exact h.fd
  · rw [upd_ne e2]; exact h.qs
  · rw [upd_ne e3]; exact h.td
  · show ((setRow _ _ _ _).map (·.name)).Pairwise (· < ·); rw [setRow_name]; exact h.asc
  · intro x hx
    have hx : x.name ∈ (setRow S.boxes i at_ t).map (·.name) := List.mem_map.mpr ⟨x, hx, rfl⟩
    rw [setRow_name] at hx
    obtain ⟨y, hy, e⟩ := List.mem_map.mp hx
    rw [← e]; exact h.top y hy
/-- one list of the house is changed -/
theorem HouseAt.outOne {H : Hp} {p a : Addr} {A : HA} {S S' : HS} {vs : List V} {o : HO} {Q : V → Hp → Prop} {v : V} (h : HouseAt C H p A S) (hm : a ∈ A.lists) (hw : H a = some (.lst vs)) (h' : HouseAt C (upd H a o) p A S') (k : Out C H p A S' Q v) : Q v (upd H a o) :=
  k A _ h' (fun b o q nb => by rw [upd_ne (fun e => nb (by rw [e]; simp [HA.foot, hm]))]; exact q) (Tups.upd hw (by intro xs z; cases z)) (Grown.refl _ _)
def spPut (C : Addr) : Sp := fun vs H Q _ => ∃ (p : Addr) (A : HA) (S : HS) (i : Nat) (b : Box) (at_ : Nat) (v : V) (t : T), vs = [.ref p, .int b.name, .int at_, v] ∧ HouseAt C H p A S ∧ S.boxes[i]? = some b ∧ at_ < b.row.length ∧ isT H t v ∧ t.In (names S) ∧ Out C H p A (S.put i at_ t) Q .non
def HS.hold (S : HS) (j : Nat) (t : T) : HS := { S with slots := S.slots.set j t }
def spHold (C : Addr) : Sp := fun vs H Q _ => ∃ (p : Addr) (A : HA) (S : HS) (j : Nat) (v : V) (t : T), vs = [.ref p, .int j, v] ∧ HouseAt C H p A S ∧ j < S.slots.length ∧ isT H t v ∧ t.In (names S) ∧ Out C H p A (S.hold j t) Q .non
end
end LW

/-! THE LAWS' defs: draws, things, the record -/
namespace LW
open PySem L2
def cellOf (ns : List Int) (k : Int) : Int := ns.getD k.toNat 0
def drw (ns : List Int) (k : Int) : Int := (cellOf ns (k % 61) + 7919 * k) * 48271 % 2147483647
/-- a thing of a law's house -/
def TOk (many : Int) : T → Prop
  | .non => True
  | .num i => -(10 ^ 40) < i ∧ i < 10 ^ 40
  | .box n => 1 ≤ n ∧ n ≤ many
/-- a box of a law's house -/
structure BOk (many : Int) (b : Box) : Prop where
  kd : b.kind = "plain" ∨ b.kind = "weak" ∨ b.kind = "pair"
  sz : sizeOf b.kind b.row.length = b.row.length
  le : b.row.length ≤ 8
  ts : ∀ t ∈ b.row, TOk many t
/-- the record lies on new places -/
def RecNew (H0 H : Hp) (ak ar : Addr) (bs : List Box) : Prop := ∃ fl, H ak = some (.dK (kindsD bs)) ∧ H ar = some (.dK (fieldsD bs fl)) ∧ Paired (fun b a => ThL H b.row a) bs fl ∧ (ak :: ar :: fl).Nodup ∧ ∀ b ∈ ak :: ar :: fl, H0 b = none
theorem Own.add {H H' : Hp} {W : List Rt} {r : Rt} {F : List Addr} (w : Own H W) (s : Same H H') (h : r.on H' F) (nd : F.Nodup) (n : ∀ b ∈ F, H b = none) : Own H' (r :: W) := by
  obtain ⟨Fs, p, nd'⟩ := w
  refine ⟨F :: Fs, .cons h (pr_imp (fun r F _ _ z => r.keep z (fun b hb => ?_) (Imm.same s)) p), ?_⟩
  · obtain ⟨o, e⟩ := r.there z b hb
    rw [e]; exact s _ _ e
  · rw [List.flatten_cons]
    refine List.nodup_append.mpr ⟨nd, nd', fun x hx y hy e => ?_⟩
    subst e
    obtain ⟨G, hG, hx2⟩ := List.mem_flatten.mp hy
    obtain ⟨j, hj⟩ := List.getElem?_of_mem hG
    obtain ⟨r2, _, q⟩ := pr_getR p hj
    obtain ⟨o, e⟩ := r2.there q x hx2
    rw [n x hx] at e; cases e
theorem RecNew.on {H0 H : Hp} {ak ar : Addr} {bs : List Box} (h : RecNew H0 H ak ar bs) : ∃ F, (rRec ak ar bs).on H F ∧ F.Nodup ∧ ∀ b ∈ F, H0 b = none := let ⟨fl, a, b, c, d, e⟩ := h; ⟨_, ⟨fl, a, b, c, rfl⟩, d, e⟩
theorem ThL.same {H H' : Hp} {ts : List T} {a : Addr} (s : Same H H') (h : ThL H ts a) : ThL H' ts a := let ⟨vs, h1, h2⟩ := h; ⟨vs, s _ _ h1, h2.keep (Tups.of_same s)⟩
theorem RecNew.same {H0 H H' : Hp} {ak ar : Addr} {bs : List Box} (s : Same H H') (h : RecNew H0 H ak ar bs) : RecNew H0 H' ak ar bs := let ⟨fl, a, b, c, d, e⟩ := h; ⟨fl, s _ _ a, s _ _ b, pr_imp (fun _ _ _ _ z => z.same s) c, d, e⟩
theorem kindsD_snoc (bs : List Box) (b : Box) : kindsD (bs ++ [b]) = kindsD bs ++ [((Sum.inl b.name : Key), V.str b.kind)] := by simp [kindsD]
theorem fieldsD_snoc {bs : List Box} {fl : List Addr} (h : bs.length = fl.length) (b : Box) (a : Addr) : fieldsD (bs ++ [b]) (fl ++ [a]) = fieldsD bs fl ++ [((Sum.inl b.name : Key), V.ref a)] := by
  unfold fieldsD
  rw [List.zip_append h, List.map_append]
  rfl
theorem keyOut {bs : List Box} {n : Int} (h : n ∉ bs.map (·.name)) : valV (kindsD bs) (Sum.inl n) = none := by
  refine valV_out ?_
  rw [kindsD_keys]
  intro m
  obtain ⟨b, hb, q⟩ := List.mem_map.mp m
  rw [Sum.inl.inj q] at hb
  exact h hb
theorem keyOutF {bs : List Box} {fl : List Addr} {n : Int} (hl : bs.length = fl.length) (h : n ∉ bs.map (·.name)) : valV (fieldsD bs fl) (Sum.inl n) = none := by
  refine valV_out ?_
  rw [fieldsD_keys hl]
  intro m
  obtain ⟨b, hb, q⟩ := List.mem_map.mp m
  rw [Sum.inl.inj q] at hb
  exact h hb
theorem intsUp_snoc (lo : Int) (n : Nat) : intsUp lo (n + 1) = intsUp lo n ++ [lo + n] := by
  unfold intsUp
  rw [List.range_succ, List.map_append]
  rfl
theorem intsUp_mem {lo : Int} {n : Nat} {x : Int} : x ∈ intsUp lo n ↔ lo ≤ x ∧ x < lo + n := by
  unfold intsUp
  rw [List.mem_map]
  constructor
  · rintro ⟨k, hk, rfl⟩
    have := List.mem_range.mp hk
    omega
  · rintro ⟨h1, h2⟩
    exact ⟨(x - lo).toNat, List.mem_range.mpr (by omega), by omega⟩
theorem len_small {n : Nat} (h : n ≤ 1000) : n ≤ sizeLine := Nat.le_of_lt (small1000 h)
section
variable {P : Program} {w : World} {K : PySem.W.Frag} {mg : Str → Option Value} {base : Heap} {C : Addr}
def spCellD (K : PySem.W.Frag) : Sp := fun vs H Q _ => ∃ (a : Addr) (ns : List Int) (k : Int), vs = [.ref a, .int k] ∧ Scr K H a ns ∧ 0 ≤ k ∧ Q (.int (cellOf ns k)) H
def spDrawD (K : PySem.W.Frag) : Sp := fun vs H Q _ => ∃ (a : Addr) (ns : List Int) (k : Int), vs = [.ref a, .int k] ∧ Scr K H a ns ∧ Q (.int (drw ns k)) H
def spNumber (K : PySem.W.Frag) : Sp := fun vs H Q _ => ∃ (a : Addr) (ns : List Int) (k : Int), vs = [.ref a, .int k] ∧ Scr K H a ns ∧ ∀ i : Int, -(10 ^ 40) < i → i < 10 ^ 40 → Q (.int i) H
theorem p40 : (0 : Int) < 10 ^ 40 := by decide
def spThing (K : PySem.W.Frag) : Sp := fun vs H Q _ => ∃ (a : Addr) (ns : List Int) (k many : Int), vs = [.ref a, .int k, .int many] ∧ Scr K H a ns ∧ 1 ≤ many ∧ ∀ t v H', Same H H' → isT H' t v → TOk many t → Q v H'
end
end LW

/-! THE LAWS' defs: the record of a drawn house -/
namespace LW
open PySem L2
theorem str_ne1 : ¬ (("plain" : Str) = "weak") := by decide +kernel
theorem str_ne2 : ¬ (("plain" : Str) = "pair") := by decide +kernel
theorem str_ne3 : ¬ (("pair" : Str) = "weak") := by decide +kernel
theorem size_plain (n : Int) : sizeOf "plain" n = n := by unfold sizeOf; rw [if_neg str_ne1, if_neg str_ne2]
theorem size_weak (n : Int) : sizeOf "weak" n = 1 := by unfold sizeOf; rw [if_pos rfl]
theorem size_pair (n : Int) : sizeOf "pair" n = 2 := by unfold sizeOf; rw [if_neg str_ne3, if_pos rfl]
/-- the kind and the size that a cell draws -/
theorem menu4 (c : Int) : ∃ (kd : Str) (sz : Int), atI [V.str "plain", V.str "weak", V.str "pair", V.str "plain"] (c % 4) = some (V.str kd) ∧ atI [V.int (c / 4 % 9), V.int 1, V.int 2, V.int (c / 4 % 3)] (c % 4) = some (V.int sz) ∧
    (kd = "plain" ∨ kd = "weak" ∨ kd = "pair") ∧ 0 ≤ sz ∧ sz ≤ 8 ∧ sizeOf kd sz = sz := by
  have h1 := Int.emod_nonneg (c / 4) (show (9 : Int) ≠ 0 by decide)
  have h2 := Int.emod_lt_of_pos (c / 4) (show (0 : Int) < 9 by decide)
  have h3 := Int.emod_nonneg (c / 4) (show (3 : Int) ≠ 0 by decide)
  have h4 := Int.emod_lt_of_pos (c / 4) (show (0 : Int) < 3 by decide)
  have : c % 4 = 0 ∨ c % 4 = 1 ∨ c % 4 = 2 ∨ c % 4 = 3 := by omega
  rcases this with e | e | e | e
  · rw [e]; exact ⟨_, _, rfl, rfl, .inl rfl, h1, by omega, size_plain _⟩
  · rw [e]; exact ⟨_, _, rfl, rfl, .inr (.inl rfl), by decide, by decide, size_weak _⟩
  · rw [e]; exact ⟨_, _, rfl, rfl, .inr (.inr rfl), by decide, by decide, size_pair _⟩
  · rw [e]; exact ⟨_, _, rfl, rfl, .inl rfl, h3, by omega, size_plain _⟩
/-- a new row is laid under a new name -/
theorem RecNew.snoc {H0 H H1 H2 H3 : Hp} {ak ar a : Addr} {bs : List Box} {b : Box} (h : RecNew H0 H ak ar bs) (s1 : Same H H1) (n : b.name ∉ bs.map (·.name))
    (e2 : H2 = upd H1 ak (.dK (putK (kindsD bs) (Sum.inl b.name) (.str b.kind)))) (s2 : Same H2 H3) (ta : ThL H3 b.row a) (fa : H2 a = none) (s0 : Same H0 H2) {o : HO} (fl' : ∀ fl, H3 ar = some (.dK (fieldsD bs fl)) → o = .dK (putK (fieldsD bs fl) (Sum.inl b.name) (.ref a))) :
    RecNew H0 (upd H3 ar o) ak ar (bs ++ [b]) := by
  obtain ⟨fl, h1, h2, p, nd, fr⟩ := h
  obtain ⟨m1, nd1⟩ := List.nodup_cons.mp nd
  obtain ⟨m2, nd2⟩ := List.nodup_cons.mp nd1
  have hka : ak ≠ ar := fun e => m1 (by simp [e])
  have r2 : H2 ar = some (.dK (fieldsD bs fl)) := by rw [e2, upd_ne hka.symm]; exact s1 _ _ h2
  have r3 := s2 _ _ r2
  have k2 : H2 ak = some (.dK (putK (kindsD bs) (Sum.inl b.name) (.str b.kind))) := by rw [e2]; exact upd_same
  have k3 := s2 _ _ k2
  rw [putK_new _ (keyOut n)] at k3
  have hl := pr_len p
  have t12 : Tups H1 H2 := by rw [e2]; exact Tups.upd (s1 _ _ h1) (by intro xs z; cases z)
  have t3 : Tups H3 (upd H3 ar o) := Tups.upd r3 (by intro xs z; cases z)
  have lists : ∀ c ∈ fl, c ≠ ak ∧ c ≠ ar := fun c hc => ⟨fun e => m1 (by simp [← e, hc]), fun e => m2 (by rw [← e]; exact hc)⟩
  have na : a ≠ ak ∧ a ≠ ar ∧ a ∉ fl := by
    refine ⟨fun e => ?_, fun e => ?_, fun hc => ?_⟩
    · rw [e, k2] at fa; cases fa
    · rw [e, r2] at fa; cases fa
    · obtain ⟨j, hj⟩ := List.getElem?_of_mem hc
      obtain ⟨x, _, vs, z, _⟩ := pr_getR p hj
      have z2 : H2 a = some (.lst vs) := by rw [e2, upd_ne (lists a hc).1]; exact s1 _ _ z
      rw [z2] at fa; cases fa
  refine ⟨fl ++ [a], ?_, ?_, ?_, ?_, ?_⟩
  · rw [upd_ne hka, k3, kindsD_snoc]
  · rw [upd_same, fl' fl r3, putK_new _ (keyOutF hl n), fieldsD_snoc hl]
  · refine pr_app (pr_imp (fun x c _ hc z => ?_) p) (.cons (ta.keep t3 (upd_ne na.2.1)) .nil)
    have z1 := z.same s1
    have z2 : ThL H2 x.row c := z1.keep t12 (by rw [e2, upd_ne (lists c hc).1])
    exact (z2.same s2).keep t3 (upd_ne (lists c hc).2)
  · refine List.nodup_cons.mpr ⟨fun m => ?_, List.nodup_cons.mpr ⟨fun m => ?_, nd_snoc nd2 na.2.2⟩⟩
    · have m : ak = ar ∨ ak ∈ fl ∨ ak = a := by simpa using m
      rcases m with e | e | e
      · exact hka e
      · exact (lists _ e).1 rfl
      · exact na.1 e.symm
    · have m : ar ∈ fl ∨ ar = a := by simpa using m
      rcases m with e | e
      · exact (lists _ e).2 rfl
      · exact na.2.1 e.symm
  · intro c hc
    have hc : c ∈ ak :: ar :: fl ∨ c = a := by simpa [or_assoc] using hc
    rcases hc with hc | rfl
    · exact fr c hc
    · exact s0.free fa
section
variable {P : Program} {w : World} {K : PySem.W.Frag} {mg : Str → Option Value} {base : Heap} {C : Addr}
def spGraph (K : PySem.W.Frag) : Sp := fun vs H Q _ => ∃ (a : Addr) (ns : List Int) (many : Int), vs = [.ref a, .int many] ∧ Scr K H a ns ∧ 1 ≤ many ∧ many ≤ 1000 ∧
  ∀ m ak ar bs H', Same H H' → H' m = some (.tup [.ref ak, .ref ar]) → RecNew H H' ak ar bs → bs.map (·.name) = intsUp 1 many.toNat → (∀ b ∈ bs, BOk many b) → Q (.ref m) H'
end
end LW

/-! THE LAWS' defs: the house of a record; is it as the record -/
namespace LW
open PySem L2
/-- a box as it is made: its row is empty of things -/
def Box.blank (b : Box) : Box := ⟨b.name, b.kind, List.replicate b.row.length .non⟩
def e4 : List (List Int) := [[], [], [], []]
theorem stepHouse {C p l : Addr} {H H1 H2 : Hp} {A A2 : HA} {S : HS} {o : HO} (s : Same H H1) (f0 : ∀ b ∈ A.foot p, H b = none) (hl : H1 l = some o) (nl : l ∉ A.foot p) (fr : Frame (A.foot p) H1 H2) (gr : Grown (A.foot p) (A2.foot p) H1) :
    Same H H2 ∧ (∀ b ∈ A2.foot p, H b = none) ∧ H2 l = some o ∧ l ∉ A2.foot p := by
  refine ⟨fun b u e => fr b u (s _ _ e) fun m => ?_, fun b hb => ?_, fr l o hl nl, gr.out hl nl⟩
  · have := f0 b m
    rw [e] at this; cases this
  · rcases gr b hb with z | z
    · exact f0 b z
    · exact s.free z
theorem blank_take (bs : List Box) (i : Nat) (b : Box) (h : bs[i]? = some b) : (bs.take (i + 1)).map Box.blank = (bs.take i).map Box.blank ++ [b.blank] := by
  rw [List.take_add_one, h, List.map_append]
  rfl
theorem name_at {bs : List Box} {n i : Nat} (h : bs.map (·.name) = intsUp 1 n) {b : Box} (hb : bs[i]? = some b) : b.name = 1 + (i : Int) ∧ i < n := by
  have h1 : (bs.map (·.name))[i]? = some b.name := by rw [List.getElem?_map, hb]; rfl
  have hl := (List.getElem?_eq_some_iff.mp h1).1
  rw [h, intsUp_length] at hl
  rw [h, intsUp_get hl] at h1
  exact ⟨(Option.some.inj h1).symm, hl⟩
theorem intsUp_at {lo : Int} {n i : Nat} {x : V} (h : ((intsUp lo n).map V.int)[i]? = some x) : i < n ∧ x = .int (lo + i) := by
  have hl := (List.getElem?_eq_some_iff.mp h).1
  rw [List.length_map, intsUp_length] at hl
  rw [List.getElem?_map, intsUp_get hl] at h
  exact ⟨hl, (Option.some.inj h).symm⟩
/-- what a dict of kinds, a dict of rows say of the i-th box -/
theorem kindAt {bs : List Box} (nd : (bs.map (·.name)).Nodup) {i : Nat} {b : Box} (e : bs[i]? = some b) : valV (kindsD bs) (Sum.inl b.name) = some (.str b.kind) := by
  refine valV_at (by rw [kindsD_keys]; exact nd_keys nd) (i := i) ?_
  simp [kindsD, e]
theorem rowAt {bs : List Box} {fl : List Addr} (hl : bs.length = fl.length) (nd : (bs.map (·.name)).Nodup) {i : Nat} {b : Box} {a : Addr} (e : bs[i]? = some b) (ha : fl[i]? = some a) : valV (fieldsD bs fl) (Sum.inl b.name) = some (.ref a) := by
  refine valV_at (by rw [fieldsD_keys hl]; exact nd_keys nd) (i := i) ?_
  unfold fieldsD
  rw [List.getElem?_map, List.getElem?_zip_eq_some.mpr (show bs[i]? = some (b, a).1 ∧ fl[i]? = some (b, a).2 from ⟨e, ha⟩)]
  rfl
theorem intsUp_asc (lo : Int) : ∀ n : Nat, (intsUp lo n).Pairwise (· < ·)
  | 0 => .nil
  | n + 1 => by
    rw [intsUp_snoc]
    refine List.pairwise_append.mpr ⟨intsUp_asc lo n, List.pairwise_singleton _ _, fun x hx y hy => ?_⟩
    rw [List.mem_singleton.mp hy]
    exact (intsUp_mem.mp hx).2
/-- the rows behind i boxes and j things of the next -/
def rowsTo (bs : List Box) (i j : Nat) : List Box := bs.mapIdx fun k b => if k < i then b else if k = i then ⟨b.name, b.kind, b.row.take j ++ List.replicate (b.row.length - j) .non⟩ else b.blank
theorem rowsTo_00 (bs : List Box) : rowsTo bs 0 0 = bs.map Box.blank := by
  unfold rowsTo
  refine List.ext_getElem? fun k => ?_
  rw [List.getElem?_mapIdx, List.getElem?_map]
  cases bs[k]? with
  | none => rfl
  | some b =>
    simp only [Option.map_some, Nat.not_lt_zero, if_false]
    split
    · simp [Box.blank]
    · rfl
theorem rowsTo_next {bs : List Box} {i : Nat} {b : Box} (h : bs[i]? = some b) : rowsTo bs i b.row.length = rowsTo bs (i + 1) 0 := by
  unfold rowsTo
  refine List.ext_getElem? fun k => ?_
  rw [List.getElem?_mapIdx, List.getElem?_mapIdx]
  cases e : bs[k]? with
  | none => rfl
  | some c =>
    simp only [Option.map_some, Option.some.injEq]
    by_cases h1 : k < i
    · rw [if_pos h1, if_pos (by omega)]
    · rw [if_neg h1]
      by_cases h2 : k = i
      · subst h2
        rw [h] at e; cases e
        rw [if_pos rfl, if_pos (by omega)]
        simp
      · rw [if_neg h2, if_neg (by omega)]
        split
        · simp [Box.blank]
        · rfl
theorem rowsTo_all (bs : List Box) : rowsTo bs bs.length 0 = bs := by
  unfold rowsTo
  refine List.ext_getElem? fun k => ?_
  rw [List.getElem?_mapIdx]
  cases e : bs[k]? with
  | none => rfl
  | some c =>
    have := (List.getElem?_eq_some_iff.mp e).1
    simp only [Option.map_some, if_pos this]
theorem rowsTo_name (bs : List Box) (i j : Nat) : (rowsTo bs i j).map (·.name) = bs.map (·.name) := by
  unfold rowsTo
  refine List.ext_getElem? fun k => ?_
  rw [List.getElem?_map, List.getElem?_mapIdx, List.getElem?_map]
  cases bs[k]? with
  | none => rfl
  | some b =>
    simp only [Option.map_some]
    split
    · rfl
    · split <;> rfl
theorem rowsTo_at {bs : List Box} {i j : Nat} {b : Box} (h : bs[i]? = some b) : (rowsTo bs i j)[i]? = some ⟨b.name, b.kind, b.row.take j ++ List.replicate (b.row.length - j) .non⟩ := by
  unfold rowsTo
  rw [List.getElem?_mapIdx, h]
  simp
theorem set_take_rep {α : Type} {l : List α} {j : Nat} {t x : α} (h : l[j]? = some t) : (l.take j ++ List.replicate (l.length - j) x).set j t = l.take (j + 1) ++ List.replicate (l.length - (j + 1)) x := by
  have hj := (List.getElem?_eq_some_iff.mp h).1
  have e : l.length - j = l.length - (j + 1) + 1 := by omega
  have ht : (l.take j).length = j := by rw [List.length_take]; omega
  rw [List.set_append_right _ _ (by omega), ht, Nat.sub_self, e, List.replicate_succ, List.set_cons_zero, List.take_add_one, h, List.append_assoc]
  rfl
theorem set_take_drop {α : Type} {l m : List α} {j : Nat} {t : α} (h : l[j]? = some t) (hm : j < m.length) : (l.take j ++ m.drop j).set j t = l.take (j + 1) ++ m.drop (j + 1) := by
  have hj := (List.getElem?_eq_some_iff.mp h).1
  have ht : (l.take j).length = j := by rw [List.length_take]; omega
  rw [List.set_append_right _ _ (by omega), ht, Nat.sub_self, List.drop_eq_getElem_cons hm, List.set_cons_zero, List.take_add_one, h, List.append_assoc]
  rfl
theorem rowsTo_put {bs : List Box} {i j : Nat} {b : Box} {t : T} (h : bs[i]? = some b) (ht : b.row[j]? = some t) : setRow (rowsTo bs i j) i j t = rowsTo bs i (j + 1) := by
  unfold setRow
  rw [modify_at _ (rowsTo_at h)]
  refine List.ext_getElem? fun k => ?_
  rw [List.getElem?_set]
  by_cases e : i = k
  · subst e
    rw [rowsTo_at h]
    have hl : i < (rowsTo bs i j).length := by
      have := (List.getElem?_eq_some_iff.mp h).1
      simpa [rowsTo] using this
    rw [if_pos rfl, if_pos hl, rowsTo_at h]
    simp only [set_take_rep ht]
  · rw [if_neg e]
    unfold rowsTo
    rw [List.getElem?_mapIdx, List.getElem?_mapIdx]
    cases bs[k]? with
    | none => rfl
    | some c =>
      simp only [Option.map_some]
      rw [if_neg (show ¬ k = i from fun q => e q.symm), if_neg (show ¬ k = i from fun q => e q.symm)]
section
variable {P : Program} {w : World} {K : PySem.W.Frag} {mg : Str → Option Value} {base : Heap} {C : Addr}
def spHouse (C : Addr) : Sp := fun vs H Q _ => ∃ (ak ar as : Addr) (fl : List Addr) (bs : List Box) (ts : List T) (extra : Int), vs = [.ref ak, .ref ar, .ref as, .int extra] ∧ H ak = some (.dK (kindsD bs)) ∧ H ar = some (.dK (fieldsD bs fl)) ∧
  Paired (fun b a => ThL H b.row a) bs fl ∧ ThL H ts as ∧ bs.map (·.name) = intsUp 1 bs.length ∧ bs.length < 64 ∧ (∀ b ∈ bs, BOk bs.length b) ∧ 1 ≤ ts.length ∧ ts.length ≤ 1000 ∧ (∀ t ∈ ts, TOk bs.length t) ∧ 0 ≤ extra ∧
  ∀ p A H', Same H H' → HouseAt C H' p A ⟨bs.length + extra, ts, bs.length, bs, e4, e4⟩ → (∀ b ∈ A.foot p, H b = none) → Q (.ref p) H'
end
/-! ### the record among the roots -/
def rScr (K : PySem.W.Frag) (a : Addr) (ns : List Int) : Rt where
  on H F := Scr K H a ns ∧ F = []
  keep := by
    rintro H H' F ⟨h, rfl⟩ k im
    exact ⟨h.keep im.f, rfl⟩
  there := by
    rintro H F ⟨h, rfl⟩ b hb
    simp at hb
theorem Own.scr {K : PySem.W.Frag} {H : Hp} {W : List Rt} {i : Nat} {a : Addr} {ns : List Int} (w : Own H W) (h : W[i]? = some (rScr K a ns)) : Scr K H a ns := by
  obtain ⟨F, q, _⟩ := w.get h
  exact q
theorem Own.tup {H : Hp} {W : List Rt} {i : Nat} {a : Addr} {vs : List V} (w : Own H W) (h : W[i]? = some (rTup a vs)) : H a = some (.tup vs) := by
  obtain ⟨F, q, _⟩ := w.get h
  exact q
theorem Own.rec {H : Hp} {W : List Rt} {i : Nat} {ak ar : Addr} {bs : List Box} (w : Own H W) (h : W[i]? = some (rRec ak ar bs)) : ∃ fl, H ak = some (.dK (kindsD bs)) ∧ H ar = some (.dK (fieldsD bs fl)) ∧ Paired (fun b a => ThL H b.row a) bs fl := by
  obtain ⟨F, fl, q1, q2, q3, _⟩ := w.get h
  exact ⟨fl, q1, q2, q3⟩
theorem Own.recPut {H : Hp} {W : List Rt} {j i : Nat} {ak ar : Addr} {bs : List Box} {b : Box} (w : Own H W) (h : W[j]? = some (rRec ak ar bs)) (hb : bs[i]? = some b) : ∃ fl a ws, H ak = some (.dK (kindsD bs)) ∧ H ar = some (.dK (fieldsD bs fl)) ∧ bs.length = fl.length ∧ fl[i]? = some a ∧ H a = some (.lst ws) ∧ Ths H b.row ws ∧
    ∀ (t : T) (v : V) (at_ : Nat), isT H t v → Own (upd H a (.lst (ws.set at_ v))) (W.set j (rRec ak ar (setRow bs i at_ t))) := by
  obtain ⟨F, G, ⟨fl, hk, hr, pf, rfl⟩, nd, dj, th, fin⟩ := w.chg h
  obtain ⟨a, ha, ws, hw, htw⟩ := pr_get pf hb
  have ham := List.mem_of_getElem? ha
  refine ⟨fl, a, ws, hk, hr, pr_len pf, ha, hw, htw, fun t v at_ tv => ?_⟩
  have ndf : fl.Nodup := (List.nodup_cons.mp (List.nodup_cons.mp nd).2).2
  have tu : Tups H (upd H a (.lst (ws.set at_ v))) := Tups.upd hw (by intro xs z; cases z)
  refine fin _ _ (ak :: ar :: fl) ⟨fl, ?_, ?_, rows_put pf ndf hb ha htw tv tu upd_same (fun c _ n => upd_ne n), rfl⟩ nd (fun b hb => .inl hb) (fun b hb => upd_ne fun e => ?_) (Imm.upd hw trivial)
  · rw [upd_ne (ne_of hk hw (by intro z; cases z)), hk, kindsD_setRow]
  · rw [upd_ne (ne_of hr hw (by intro z; cases z)), hr, fieldsD_names (setRow_name _ _ _ _)]
  · subst e
    exact dj b (by simp [ham]) hb
end LW

namespace LW
open PySem L2
end LW

/-! two boxes changed about -/
namespace LW
open PySem L2
section
variable {α : Type}
theorem pr_of_get {β : Type} {F : α → β → Prop} : ∀ {xs : List α} {ys : List β}, xs.length = ys.length → (∀ (k : Nat) a b, xs[k]? = some a → ys[k]? = some b → F a b) → Paired F xs ys
  | [], [], _, _ => .nil
  | [], _ :: _, h, _ => by simp at h
  | _ :: _, [], h, _ => by simp at h
  | x :: xs, y :: ys, h, f => .cons (f 0 x y rfl rfl) (pr_of_get (by simpa using h) fun k a b h1 h2 => f (k + 1) a b (by simpa using h1) (by simpa using h2))
end
section
variable {bs : List Box} {fl : List Addr} {i j : Nat} {x y : Box} {fi fj : Addr}
theorem fieldsD_set {a : Addr} (hl : bs.length = fl.length) (hi : bs[i]? = some x) : (fieldsD bs fl).set i (Sum.inl x.name, V.ref a) = fieldsD bs (fl.set i a) := by
  have h1 := (List.getElem?_eq_some_iff.mp hi).1
  unfold fieldsD
  refine List.ext_getElem? fun k => ?_
  rw [List.getElem?_set, List.getElem?_map, List.getElem?_map, List.length_map, List.length_zip]
  by_cases q : i = k
  · subst q
    rw [if_pos rfl, if_pos (by omega), List.getElem?_zip_eq_some.mpr (show bs[i]? = some (x, a).1 ∧ (fl.set i a)[i]? = some (x, a).2 from ⟨hi, by simp [List.getElem?_set]; omega⟩)]
    rfl
  · rw [if_neg q]
    congr 1
    unfold List.zip
    rw [List.getElem?_zipWith, List.getElem?_zipWith, List.getElem?_set, if_neg q]
end
section
variable {C : Addr} {H H' : Hp} {p : Addr} {A : HA} {S : HS} {i j : Nat} {x y : Box} {fi fj : Addr}
end
end LW

/-! guards: who waits, who was told -/
namespace LW
open PySem L2
section
variable {C : Addr} {H : Hp} {p : Addr} {A : HA} {S : HS} {g : Nat} {a : Addr} {ns ms : List Int}
end
/-- a house that has come so far -/
structure Upto (C : Addr) (H : Hp) (p : Addr) (A : HA) (H' : Hp) (A' : HA) (S' : HS) : Prop where
  hh : HouseAt C H' p A' S'
  fr : Frame (A.foot p) H H'
  tu : Tups H H'
  gr : Grown (A.foot p) (A'.foot p) H
section
variable {C : Addr} {H H1 H2 : Hp} {p : Addr} {A A1 A2 : HA} {S1 S2 : HS} {l : Addr} {o : HO}
theorem Upto.refl {S : HS} (h : HouseAt C H p A S) : Upto C H p A H A S := ⟨h, Frame.refl _ _, Tups.refl _, Grown.refl _ _⟩
theorem Upto.step (u : Upto C H p A H1 A1 S1) (h : HouseAt C H2 p A2 S2) (fr : Frame (A1.foot p) H1 H2) (tu : Tups H1 H2) (gr : Grown (A1.foot p) (A2.foot p) H1) : Upto C H p A H2 A2 S2 where
  hh := h
  fr := fun b o e n => fr b o (u.fr b o e n) (u.gr.out e n)
  tu := u.tu.trans tu
  gr := fun b hb => by
    rcases gr b hb with z | z
    · exact u.gr b z
    · by_cases m : b ∈ A.foot p
      · exact .inl m
      · right
        cases e : H b with
        | none => rfl
        | some o => rw [u.fr b o e m] at z; cases z
theorem Upto.new (u : Upto C H p A H1 A1 S1) (n : H1 l = none) : Upto C H p A (upd H1 l o) A1 S1 :=
  u.step (u.hh.new n) (fun b o e _ => kp_n e n) (Tups.new n) (Grown.refl _ _)
theorem Upto.same (u : Upto C H p A H1 A1 S1) (s : Same H1 H2) : Upto C H p A H2 A1 S1 :=
  u.step (u.hh.same s) (Frame.of_same s) (Tups.of_same s) (Grown.refl _ _)
theorem Upto.keep (u : Upto C H p A H1 A1 S1) {b : Addr} {o : HO} (e : H b = some o) (n : b ∉ A.foot p) : H1 b = some o ∧ b ∉ A1.foot p := ⟨u.fr b o e n, u.gr.out e n⟩
theorem Upto.out {Q : V → Hp → Prop} {v : V} (u : Upto C H p A H1 A1 S1) (k : Out C H p A S1 Q v) : Q v H1 := k A1 H1 u.hh u.fr u.tu u.gr
end
def LlsAt (H : Hp) (w : Addr) (al : List Addr) (xss : List (List Int)) : Prop := H w = some (.lst (al.map V.ref)) ∧ Paired (IntL H) xss al
theorem LlsAt.same {H H' : Hp} {w : Addr} {al : List Addr} {xss : List (List Int)} (s : Same H H') (h : LlsAt H w al xss) : LlsAt H' w al xss := ⟨s _ _ h.1, pr_imp (fun _ _ _ _ z => s _ _ z) h.2⟩
/-- the lists of a law's waits, on new places -/
def LlsNew (H0 H : Hp) (w : Addr) (xss : List (List Int)) : Prop := ∃ al, LlsAt H w al xss ∧ (w :: al).Nodup ∧ ∀ b ∈ w :: al, H0 b = none
end LW

namespace LW
open PySem L2
section
variable {H : Hp} {W : List Rt} {i j : Nat} {r r2 : Rt}
theorem LlsNew.on {H0 : Hp} {a : Addr} {xss : List (List Int)} (h : LlsNew H0 H a xss) : ∃ F, (rLls a xss).on H F ∧ F.Nodup ∧ ∀ b ∈ F, H0 b = none := let ⟨al, ⟨a1, a2⟩, b, c⟩ := h; ⟨_, ⟨al, a1, a2, rfl⟩, b, c⟩
variable {ak ar : Addr} {bs : List Box} {m n : Nat} {x y : Box}
end
end LW

namespace LW
open PySem L2
end LW

/-! d.setdefault(k, x) -/
namespace L2
open PySem PySem.Spec PyProof.Rows
section
variable {X : Cx} {pins : List (Addr × Obj)} {σ : St} {H : Hp} {s : Shared} {a : Addr} {kvs : List (Key × V)} {k : Key} {u r : Value} {d : V} {A : Around} {E : Value → Shared → Prop}
end
end L2

/-! who is held: the search as it lies in the heap -/
namespace LW
open PySem L2
theorem nodup_len : ∀ {l m : List Int}, l.Nodup → (∀ x ∈ l, x ∈ m) → l.length ≤ m.length
  | [], _, _, _ => Nat.zero_le _
  | x :: l, m, nd, h => by
    obtain ⟨n1, n2⟩ := List.nodup_cons.mp nd
    have hx : x ∈ m := h x List.mem_cons_self
    have := nodup_len (l := l) (m := m.erase x) n2 fun y hy => (List.mem_erase_of_ne (show y ≠ x from fun e => n1 (by rw [← e]; exact hy))).mpr (h y (List.mem_cons_of_mem _ hy))
    rw [List.length_erase_of_mem hx] at this
    have hp : 0 < m.length := List.length_pos_of_mem hx
    rw [List.length_cons]; omega
/-- a row of the paper -/
inductive Rw where
  | slot (n s : Int) | told (n g : Int) | bes (n : Int) | plain (n h at_ : Int) | pair (n h : Int)
def Rw.nm : Rw → Int
  | .slot n _ => n
  | .told n _ => n
  | .bes n => n
  | .plain n _ _ => n
  | .pair n _ => n
def Rw.vs : Rw → List V
  | .slot n s => [.int n, .str "slot", .int s]
  | .told n g => [.int n, .str "told", .int g]
  | .bes n => [.int n, .str "besides"]
  | .plain n h i => [.int n, .str "plain", .int h, .int i]
  | .pair n h => [.int n, .str "pair", .int h]
def isRw (H : Hp) (r : Rw) (v : V) : Prop := ∃ a, v = .ref a ∧ H a = some (.tup r.vs)
theorem isRw.keep {H H' : Hp} {r : Rw} {v : V} (t : Tups H H') (h : isRw H r v) : isRw H' r v := let ⟨a, e, q⟩ := h; ⟨a, e, t _ _ q⟩
def RowsAt (H : Hp) (l : Addr) (rows : List Rw) : Prop := ∃ vs, H l = some (.lst vs) ∧ Paired (isRw H) rows vs
structure SS where
  rows : List Rw
  locked : List (Int × List Int)
def SS.names (st : SS) : List Int := st.rows.map Rw.nm
structure SB where
  dx : Addr
  rl : Addr
  ld : Addr
  kd : Addr
  ll : List Addr
def SB.foot (B : SB) (q : Addr) : List Addr := q :: B.ld :: B.kd :: B.rl :: B.ll
def sFlds (p : Addr) (B : SB) : List (Str × V) := [("house", .ref p), ("rows", .ref B.rl), ("listed", .ref B.ld), ("locked", .ref B.kd)]
def listedD (rows : List Rw) : List (Key × V) := rows.map fun r => ((Sum.inl r.nm : Key), V.bl true)
def lockD (l : List (Int × List Int)) (al : List Addr) : List (Key × V) := (l.zip al).map fun q => ((Sum.inl q.1.1 : Key), V.ref q.2)
structure SearchAt (CS : Addr) (H : Hp) (q p : Addr) (B : SB) (st : SS) : Prop where
  ob : H q = some (.ins CS B.dx (sFlds p B))
  rl : RowsAt H B.rl st.rows
  ld : H B.ld = some (.dK (listedD st.rows))
  kd : H B.kd = some (.dK (lockD st.locked B.ll))
  ll : Paired (fun x a => IntL H x.2 a) st.locked B.ll
  nd : (B.rl :: B.ll).Nodup
  kf : B.ld ≠ B.kd
  un : st.names.Nodup
  lk : (st.locked.map (·.1)).Nodup
section
variable {p : Addr} {B : SB}
end
section
variable {CS : Addr} {H H' : Hp} {q p : Addr} {B : SB} {st : SS}
theorem SearchAt.keep (h : SearchAt CS H q p B st) (k : ∀ b ∈ B.foot q, H' b = H b) (t : Tups H H') : SearchAt CS H' q p B st where
  ob := (k q (by simp [SB.foot])).trans h.ob
  rl := let ⟨vs, a, b⟩ := h.rl; ⟨vs, (k _ (by simp [SB.foot])).trans a, pr_imp (fun _ _ _ _ z => z.keep t) b⟩
  ld := (k _ (by simp [SB.foot])).trans h.ld
  kd := (k _ (by simp [SB.foot])).trans h.kd
  ll := pr_imp (fun x a _ ha z => (k _ (by simp [SB.foot, ha])).trans z) h.ll
  nd := h.nd
  kf := h.kf
  un := h.un
  lk := h.lk
theorem SearchAt.there (h : SearchAt CS H q p B st) : ∀ b ∈ B.foot q, ∃ o, H b = some o := fun b hb => by
  have hb : b = q ∨ b = B.ld ∨ b = B.kd ∨ b = B.rl ∨ b ∈ B.ll := by simpa [SB.foot] using hb
  rcases hb with e | e | e | e | e
  · exact ⟨_, e ▸ h.ob⟩
  · exact ⟨_, e ▸ h.ld⟩
  · exact ⟨_, e ▸ h.kd⟩
  · obtain ⟨vs, z, _⟩ := h.rl; exact ⟨_, e ▸ z⟩
  · obtain ⟨i, hi⟩ := List.getElem?_of_mem e
    obtain ⟨x, _, z⟩ := pr_getR h.ll hi
    exact ⟨_, z⟩
theorem SearchAt.same (h : SearchAt CS H q p B st) (s : Same H H') : SearchAt CS H' q p B st := h.keep (fun b hb => by
  obtain ⟨o, e⟩ := h.there b hb
  rw [e]; exact s _ _ e) (Tups.of_same s)
theorem SearchAt.new (h : SearchAt CS H q p B st) {a : Addr} {o : HO} (n : H a = none) : SearchAt CS (upd H a o) q p B st := h.same (Same.new n)
theorem SearchAt.out (h : SearchAt CS H q p B st) {a : Addr} (n : H a = none) : a ∉ B.foot q := fun z => by
  obtain ⟨o, e⟩ := h.there a z
  rw [n] at e; cases e
end
/-- a row is added if its name is new -/
def SS.add (st : SS) (r : Rw) : SS := if r.nm ∈ st.names then st else { st with rows := st.rows ++ [r] }
end LW

/-! the search beside the house -/
namespace LW
open PySem L2
structure HS.Ok (S : HS) : Prop where
  row : ∀ b ∈ S.boxes, ∀ t ∈ b.row, t.In (names S)
  pair : ∀ b ∈ S.boxes, b.kind = "pair" → b.row.length = 2
  slot : ∀ t ∈ S.slots, t.In (names S)
  told : ∀ xs ∈ S.told, ∀ n ∈ xs, n ∈ names S
  few : S.boxes.length ≤ 900
  eight : ∀ b ∈ S.boxes, b.row.length ≤ 900
structure SH (C CS : Addr) (H : Hp) (q p : Addr) (A : HA) (S : HS) (B : SB) (st : SS) : Prop where
  hs : SearchAt CS H q p B st
  hh : HouseAt C H p A S
  ap : ∀ b ∈ A.foot p, b ∉ B.foot q
  ins : ∀ n ∈ st.names, n ∈ names S
  ok : S.Ok
structure UpS (C CS : Addr) (H : Hp) (q p : Addr) (A : HA) (S : HS) (B : SB) (H' : Hp) (B' : SB) (st' : SS) : Prop where
  sh : SH C CS H' q p A S B' st'
  fr : Frame (B.foot q) H H'
  tu : Tups H H'
  gr : Grown (B.foot q) (B'.foot q) H
def OutH (C CS : Addr) (H : Hp) (q p : Addr) (A : HA) (S : HS) (B : SB) (st' : SS) (Q : V → Hp → Prop) (v : V) : Prop := ∀ B' H', UpS C CS H q p A S B H' B' st' → Q v H'
section
variable {C CS : Addr} {H H1 H2 : Hp} {q p l : Addr} {A : HA} {S : HS} {B B1 B2 : SB} {st st1 st2 : SS} {o : HO}
theorem SH.few (h : SH C CS H q p A S B st) : st.rows.length ≤ 900 := by
  have := nodup_len h.hs.un h.ins
  have e : st.names.length = st.rows.length := by simp [SS.names]
  have e2 : (names S).length = S.boxes.length := by simp [names]
  have := h.ok.few
  omega
theorem SH.house (h : SH C CS H q p A S B st) (fr : Frame (B.foot q) H H1) (tu : Tups H H1) : HouseAt C H1 p A S := h.hh.keep (fun b hb => by
  obtain ⟨u, e⟩ := h.hh.there b hb
  rw [e]; exact fr b u e (h.ap b hb)) tu
theorem UpS.refl (h : SH C CS H q p A S B st) : UpS C CS H q p A S B H B st := ⟨h, Frame.refl _ _, Tups.refl _, Grown.refl _ _⟩
theorem UpS.step (u : UpS C CS H q p A S B H1 B1 st1) (h : SearchAt CS H2 q p B2 st2) (fr : Frame (B1.foot q) H1 H2) (tu : Tups H1 H2) (gr : Grown (B1.foot q) (B2.foot q) H1) (ins : ∀ n ∈ st2.names, n ∈ names S) : UpS C CS H q p A S B H2 B2 st2 where
  sh := ⟨h, u.sh.house fr tu, (fun b hb m => by
    rcases gr b m with z | z
    · exact u.sh.ap b hb z
    · obtain ⟨o, e⟩ := u.sh.hh.there b hb
      rw [z] at e
      exact nomatch e), ins, u.sh.ok⟩
  fr := fun b o e n => fr b o (u.fr b o e n) (u.gr.out e n)
  tu := u.tu.trans tu
  gr := fun b hb => by
    rcases gr b hb with z | z
    · exact u.gr b z
    · by_cases m : b ∈ B.foot q
      · exact .inl m
      · right
        cases e : H b with
        | none => rfl
        | some o => rw [u.fr b o e m] at z; cases z
theorem UpS.trans (u : UpS C CS H q p A S B H1 B1 st1) (v : UpS C CS H1 q p A S B1 H2 B2 st2) : UpS C CS H q p A S B H2 B2 st2 := u.step v.sh.hs v.fr v.tu v.gr v.sh.ins
theorem UpS.new (u : UpS C CS H q p A S B H1 B1 st1) (n : H1 l = none) : UpS C CS H q p A S B (upd H1 l o) B1 st1 :=
  u.step (u.sh.hs.new n) (fun b o e _ => kp_n e n) (Tups.new n) (Grown.refl _ _) u.sh.ins
theorem UpS.keep (u : UpS C CS H q p A S B H1 B1 st1) {b : Addr} {o : HO} (e : H b = some o) (n : b ∉ B.foot q) : H1 b = some o ∧ b ∉ B1.foot q := ⟨u.fr b o e n, u.gr.out e n⟩
theorem UpS.out {Q : V → Hp → Prop} {v : V} (u : UpS C CS H q p A S B H1 B1 st1) (k : OutH C CS H q p A S B st1 Q v) : Q v H1 := k B1 H1 u
end
end LW

namespace LW
open PySem L2
def top (i : Nat) : Stmt := PySem.Challenge.pw_lastword_k17_whole_parted_or_not.main.body.getD i (.Pass ⟨0, 0, 0, 0⟩)
abbrev s_f_box_thing : Stmt := top 2
theorem sc_f_box_thing : FnScope ["name"] ["name"] (defScope s_f_box_thing) := ⟨rfl, rfl, rfl, by decide +kernel, rfl, by decide +kernel, by decide +kernel⟩
abbrev s_f_box_name : Stmt := top 3
theorem sc_f_box_name : FnScope ["thing"] ["thing"] (defScope s_f_box_name) := ⟨rfl, rfl, rfl, by decide +kernel, rfl, by decide +kernel, by decide +kernel⟩
abbrev s_f_renamed : Stmt := top 4
theorem sc_f_renamed : FnScope ["thing", "new_names", "name"] ["thing", "new_names"] (defScope s_f_renamed) := ⟨rfl, rfl, rfl, by decide +kernel, rfl, by decide +kernel, by decide +kernel⟩
abbrev s_f_apart : Stmt := top 6
theorem sc_f_apart : FnScope ["house", "name", "other", "looks", "reached", "pairs", "at", "pair", "step"] ["house", "name", "other"] (defScope s_f_apart) := ⟨rfl, rfl, rfl, by decide +kernel, rfl, by decide +kernel, by decide +kernel⟩
abbrev s_f_things_in : Stmt := top 7
theorem sc_f_things_in : FnScope ["house", "name"] ["house", "name"] (defScope s_f_things_in) := ⟨rfl, rfl, rfl, by decide +kernel, rfl, by decide +kernel, by decide +kernel⟩
abbrev s_f_row_of : Stmt := top 8
theorem sc_f_row_of : FnScope ["house", "name", "new_names", "things"] ["house", "name", "new_names"] (defScope s_f_row_of) := ⟨rfl, rfl, rfl, by decide +kernel, rfl, by decide +kernel, by decide +kernel⟩
abbrev s_f_looks_of : Stmt := top 9
theorem sc_f_looks_of : FnScope ["house", "names", "left_out"] ["house"] (defScope s_f_looks_of) := ⟨rfl, rfl, rfl, by decide +kernel, rfl, by decide +kernel, by decide +kernel⟩
abbrev s_f_steps_from : Stmt := top 10
theorem sc_f_steps_from : FnScope ["house", "pair", "steps", "at", "first", "second"] ["house", "pair"] (defScope s_f_steps_from) := ⟨rfl, rfl, rfl, by decide +kernel, rfl, by decide +kernel, by decide +kernel⟩
abbrev s_f_road_to : Stmt := top 11
theorem sc_f_road_to : FnScope ["pair", "reached", "road", "came"] ["pair", "reached"] (defScope s_f_road_to) := ⟨rfl, rfl, rfl, by decide +kernel, rfl, by decide +kernel, by decide +kernel⟩
abbrev s_f_living : Stmt := top 20
theorem sc_f_living : FnScope ["house", "besides"] ["house", "besides"] (defScope s_f_living) := ⟨rfl, rfl, rfl, by decide +kernel, rfl, by decide +kernel, by decide +kernel⟩
abbrev s_f_paper : Stmt := top 21
theorem sc_f_paper : FnScope ["house", "besides", "search"] ["house", "besides"] (defScope s_f_paper) := ⟨rfl, rfl, rfl, by decide +kernel, rfl, by decide +kernel, by decide +kernel⟩
abbrev s_m_Search_init : Stmt := inClass (top 22) 0
theorem sc_m_Search_init : FnScope ["self", "house"] ["self", "house"] (defScope s_m_Search_init) := ⟨rfl, rfl, rfl, by decide +kernel, rfl, by decide +kernel, by decide +kernel⟩
abbrev s_m_Search_add_row : Stmt := inClass (top 22) 1
theorem sc_m_Search_add_row : FnScope ["self", "row"] ["self", "row"] (defScope s_m_Search_add_row) := ⟨rfl, rfl, rfl, by decide +kernel, rfl, by decide +kernel, by decide +kernel⟩
abbrev s_m_Search_add_slots : Stmt := inClass (top 22) 2
theorem sc_m_Search_add_slots : FnScope ["self", "slot", "thing", "name"] ["self"] (defScope s_m_Search_add_slots) := ⟨rfl, rfl, rfl, by decide +kernel, rfl, by decide +kernel, by decide +kernel⟩
abbrev s_m_Search_add_told : Stmt := inClass (top 22) 3
theorem sc_m_Search_add_told : FnScope ["self", "guard", "names", "name"] ["self"] (defScope s_m_Search_add_told) := ⟨rfl, rfl, rfl, by decide +kernel, rfl, by decide +kernel, by decide +kernel⟩
abbrev s_m_Search_follow_all : Stmt := inClass (top 22) 4
theorem sc_m_Search_follow_all : FnScope ["self", "at"] ["self"] (defScope s_m_Search_follow_all) := ⟨rfl, rfl, rfl, by decide +kernel, rfl, by decide +kernel, by decide +kernel⟩
abbrev s_m_Search_follow : Stmt := inClass (top 22) 5
theorem sc_m_Search_follow : FnScope ["self", "name", "holder", "kind"] ["self", "name"] (defScope s_m_Search_follow) := ⟨rfl, rfl, rfl, by decide +kernel, rfl, by decide +kernel, by decide +kernel⟩
abbrev s_m_Search_add_fields : Stmt := inClass (top 22) 6
theorem sc_m_Search_add_fields : FnScope ["self", "holder", "at", "name"] ["self", "holder"] (defScope s_m_Search_add_fields) := ⟨rfl, rfl, rfl, by decide +kernel, rfl, by decide +kernel, by decide +kernel⟩
abbrev s_m_Search_follow_pair : Stmt := inClass (top 22) 7
theorem sc_m_Search_follow_pair : FnScope ["self", "holder", "key"] ["self", "holder"] (defScope s_m_Search_follow_pair) := ⟨rfl, rfl, rfl, by decide +kernel, rfl, by decide +kernel, by decide +kernel⟩
abbrev s_m_Search_add_value : Stmt := inClass (top 22) 8
theorem sc_m_Search_add_value : FnScope ["self", "holder", "name"] ["self", "holder"] (defScope s_m_Search_add_value) := ⟨rfl, rfl, rfl, by decide +kernel, rfl, by decide +kernel, by decide +kernel⟩
abbrev s_f_sweep : Stmt := top 24
theorem sc_f_sweep : FnScope ["house", "besides", "held_ahead", "weak_broken", "told", "held_anew", "pairs_broken", "gone"] ["house", "besides"] (defScope s_f_sweep) := ⟨rfl, rfl, rfl, by decide +kernel, rfl, by decide +kernel, by decide +kernel⟩
abbrev s_f_break_weak : Stmt := top 25
theorem sc_f_break_weak : FnScope ["house", "held", "weak", "broken", "name"] ["house", "held"] (defScope s_f_break_weak) := ⟨rfl, rfl, rfl, by decide +kernel, rfl, by decide +kernel, by decide +kernel⟩
abbrev s_f_tell_unheld : Stmt := top 26
theorem sc_f_tell_unheld : FnScope ["house", "held", "told", "guard", "name"] ["house", "held"] (defScope s_f_tell_unheld) := ⟨rfl, rfl, rfl, by decide +kernel, rfl, by decide +kernel, by decide +kernel⟩
abbrev s_f_break_pairs : Stmt := top 27
theorem sc_f_break_pairs : FnScope ["house", "held", "pairs", "broken", "name"] ["house", "held"] (defScope s_f_break_pairs) := ⟨rfl, rfl, rfl, by decide +kernel, rfl, by decide +kernel, by decide +kernel⟩
abbrev s_f_leads_to_unheld : Stmt := top 28
theorem sc_f_leads_to_unheld : FnScope ["house", "name", "held", "first"] ["house", "name", "held"] (defScope s_f_leads_to_unheld) := ⟨rfl, rfl, rfl, by decide +kernel, rfl, by decide +kernel, by decide +kernel⟩
abbrev s_f_drop_unheld : Stmt := top 29
theorem sc_f_drop_unheld : FnScope ["house", "held", "gone", "name"] ["house", "held"] (defScope s_f_drop_unheld) := ⟨rfl, rfl, rfl, by decide +kernel, rfl, by decide +kernel, by decide +kernel⟩
abbrev s_m_House_init : Stmt := inClass (top 33) 0
theorem sc_m_House_init : FnScope ["self", "room", "slots"] ["self", "room", "slots"] (defScope s_m_House_init) := ⟨rfl, rfl, rfl, by decide +kernel, rfl, by decide +kernel, by decide +kernel⟩
abbrev s_m_House_make : Stmt := inClass (top 33) 1
theorem sc_m_House_make : FnScope ["self", "kind", "size", "slot"] ["self", "kind", "size", "slot"] (defScope s_m_House_make) := ⟨rfl, rfl, rfl, by decide +kernel, rfl, by decide +kernel, by decide +kernel⟩
abbrev s_m_House_names : Stmt := inClass (top 33) 2
theorem sc_m_House_names : FnScope ["self"] ["self"] (defScope s_m_House_names) := ⟨rfl, rfl, rfl, by decide +kernel, rfl, by decide +kernel, by decide +kernel⟩
abbrev s_m_House_kind : Stmt := inClass (top 33) 3
theorem sc_m_House_kind : FnScope ["self", "name"] ["self", "name"] (defScope s_m_House_kind) := ⟨rfl, rfl, rfl, by decide +kernel, rfl, by decide +kernel, by decide +kernel⟩
abbrev s_m_House_size : Stmt := inClass (top 33) 4
theorem sc_m_House_size : FnScope ["self", "name"] ["self", "name"] (defScope s_m_House_size) := ⟨rfl, rfl, rfl, by decide +kernel, rfl, by decide +kernel, by decide +kernel⟩
abbrev s_m_House_put : Stmt := inClass (top 33) 5
theorem sc_m_House_put : FnScope ["self", "name", "at", "thing"] ["self", "name", "at", "thing"] (defScope s_m_House_put) := ⟨rfl, rfl, rfl, by decide +kernel, rfl, by decide +kernel, by decide +kernel⟩
abbrev s_m_House_field : Stmt := inClass (top 33) 6
theorem sc_m_House_field : FnScope ["self", "name", "at"] ["self", "name", "at"] (defScope s_m_House_field) := ⟨rfl, rfl, rfl, by decide +kernel, rfl, by decide +kernel, by decide +kernel⟩
abbrev s_m_House_hold : Stmt := inClass (top 33) 8
theorem sc_m_House_hold : FnScope ["self", "slot", "thing"] ["self", "slot", "thing"] (defScope s_m_House_hold) := ⟨rfl, rfl, rfl, by decide +kernel, rfl, by decide +kernel, by decide +kernel⟩
abbrev s_m_House_held : Stmt := inClass (top 33) 9
theorem sc_m_House_held : FnScope ["self", "slot"] ["self", "slot"] (defScope s_m_House_held) := ⟨rfl, rfl, rfl, by decide +kernel, rfl, by decide +kernel, by decide +kernel⟩
abbrev s_m_House_waiting : Stmt := inClass (top 33) 13
theorem sc_m_House_waiting : FnScope ["self", "guard"] ["self", "guard"] (defScope s_m_House_waiting) := ⟨rfl, rfl, rfl, by decide +kernel, rfl, by decide +kernel, by decide +kernel⟩
abbrev s_m_House_has_room : Stmt := inClass (top 33) 15
theorem sc_m_House_has_room : FnScope ["self", "count"] ["self", "count"] (defScope s_m_House_has_room) := ⟨rfl, rfl, rfl, by decide +kernel, rfl, by decide +kernel, by decide +kernel⟩
abbrev s_m_House_make_room : Stmt := inClass (top 33) 16
theorem sc_m_House_make_room : FnScope ["self", "count", "besides"] ["self", "count", "besides"] (defScope s_m_House_make_room) := ⟨rfl, rfl, rfl, by decide +kernel, rfl, by decide +kernel, by decide +kernel⟩
abbrev s_m_House_build : Stmt := inClass (top 33) 17
theorem sc_m_House_build : FnScope ["self", "draft", "slot", "new_names", "name", "row"] ["self", "draft", "slot"] (defScope s_m_House_build) := ⟨rfl, rfl, rfl, by decide +kernel, rfl, by decide +kernel, by decide +kernel⟩
abbrev s_m_House_tell : Stmt := inClass (top 33) 18
theorem sc_m_House_tell : FnScope ["self", "guard", "name"] ["self", "guard", "name"] (defScope s_m_House_tell) := ⟨rfl, rfl, rfl, by decide +kernel, rfl, by decide +kernel, by decide +kernel⟩
abbrev s_m_House_drop : Stmt := inClass (top 33) 19
theorem sc_m_House_drop : FnScope ["self", "name"] ["self", "name"] (defScope s_m_House_drop) := ⟨rfl, rfl, rfl, by decide +kernel, rfl, by decide +kernel, by decide +kernel⟩
abbrev s_m_House_check_slot : Stmt := inClass (top 33) 20
theorem sc_m_House_check_slot : FnScope ["self", "slot"] ["self", "slot"] (defScope s_m_House_check_slot) := ⟨rfl, rfl, rfl, by decide +kernel, rfl, by decide +kernel, by decide +kernel⟩
abbrev s_m_House_check_guard : Stmt := inClass (top 33) 21
theorem sc_m_House_check_guard : FnScope ["self", "guard"] ["self", "guard"] (defScope s_m_House_check_guard) := ⟨rfl, rfl, rfl, by decide +kernel, rfl, by decide +kernel, by decide +kernel⟩
abbrev s_m_House_check_box : Stmt := inClass (top 33) 22
theorem sc_m_House_check_box : FnScope ["self", "name"] ["self", "name"] (defScope s_m_House_check_box) := ⟨rfl, rfl, rfl, by decide +kernel, rfl, by decide +kernel, by decide +kernel⟩
abbrev s_m_House_check_thing : Stmt := inClass (top 33) 23
theorem sc_m_House_check_thing : FnScope ["self", "thing", "name"] ["self", "thing"] (defScope s_m_House_check_thing) := ⟨rfl, rfl, rfl, by decide +kernel, rfl, by decide +kernel, by decide +kernel⟩
abbrev s_m_House_check_field : Stmt := inClass (top 33) 24
theorem sc_m_House_check_field : FnScope ["self", "name", "at"] ["self", "name", "at"] (defScope s_m_House_check_field) := ⟨rfl, rfl, rfl, by decide +kernel, rfl, by decide +kernel, by decide +kernel⟩
abbrev s_f_law_cell_at : Stmt := top 35
theorem sc_f_law_cell_at : FnScope ["script", "k"] ["script", "k"] (defScope s_f_law_cell_at) := ⟨rfl, rfl, rfl, by decide +kernel, rfl, by decide +kernel, by decide +kernel⟩
abbrev s_f_law_draw : Stmt := top 36
theorem sc_f_law_draw : FnScope ["script", "k"] ["script", "k"] (defScope s_f_law_draw) := ⟨rfl, rfl, rfl, by decide +kernel, rfl, by decide +kernel, by decide +kernel⟩
abbrev s_f_law_number : Stmt := top 37
theorem sc_f_law_number : FnScope ["script", "k", "cell"] ["script", "k"] (defScope s_f_law_number) := ⟨rfl, rfl, rfl, by decide +kernel, rfl, by decide +kernel, by decide +kernel⟩
abbrev s_f_law_thing : Stmt := top 38
theorem sc_f_law_thing : FnScope ["script", "k", "many", "cell"] ["script", "k", "many"] (defScope s_f_law_thing) := ⟨rfl, rfl, rfl, by decide +kernel, rfl, by decide +kernel, by decide +kernel⟩
abbrev s_f_law_graph : Stmt := top 39
theorem sc_f_law_graph : FnScope ["script", "many", "kinds", "rows", "name", "cell", "size"] ["script", "many"] (defScope s_f_law_graph) := ⟨rfl, rfl, rfl, by decide +kernel, rfl, by decide +kernel, by decide +kernel⟩
abbrev s_f_law_mid : Stmt := top 40
theorem sc_f_law_mid : FnScope ["script", "cell"] ["script"] (defScope s_f_law_mid) := ⟨rfl, rfl, rfl, by decide +kernel, rfl, by decide +kernel, by decide +kernel⟩
abbrev s_f_law_twin : Stmt := top 41
theorem sc_f_law_twin : FnScope ["script", "many", "kinds", "rows", "kind", "size", "name", "cell"] ["script", "many"] (defScope s_f_law_twin) := ⟨rfl, rfl, rfl, by decide +kernel, rfl, by decide +kernel, by decide +kernel⟩
abbrev s_f_law_either : Stmt := top 42
theorem sc_f_law_either : FnScope ["script", "many"] ["script", "many"] (defScope s_f_law_either) := ⟨rfl, rfl, rfl, by decide +kernel, rfl, by decide +kernel, by decide +kernel⟩
abbrev s_f_law_house : Stmt := top 43
theorem sc_f_law_house : FnScope ["kinds", "rows", "slots", "extra", "house", "name", "at", "thing", "slot"] ["kinds", "rows", "slots", "extra"] (defScope s_f_law_house) := ⟨rfl, rfl, rfl, by decide +kernel, rfl, by decide +kernel, by decide +kernel⟩
abbrev s_f_law_look : Stmt := top 44
theorem sc_f_law_look : FnScope ["kinds", "rows", "name", "seen", "thing"] ["kinds", "rows", "name"] (defScope s_f_law_look) := ⟨rfl, rfl, rfl, by decide +kernel, rfl, by decide +kernel, by decide +kernel⟩
abbrev s_f_law_close : Stmt := top 45
theorem sc_f_law_close : FnScope ["kinds", "rows", "one", "other", "pairs", "seen", "at", "left", "right", "k", "thing"] ["kinds", "rows", "one", "other"] (defScope s_f_law_close) := ⟨rfl, rfl, rfl, by decide +kernel, rfl, by decide +kernel, by decide +kernel⟩
abbrev s_f_law_road : Stmt := top 46
theorem sc_f_law_road : FnScope ["kinds", "rows", "one", "other", "road", "at"] ["kinds", "rows", "one", "other", "road"] (defScope s_f_law_road) := ⟨rfl, rfl, rfl, by decide +kernel, rfl, by decide +kernel, by decide +kernel⟩
abbrev s_f_law_whole : Stmt := top 47
theorem sc_f_law_whole : FnScope ["found"] ["found"] (defScope s_f_law_whole) := ⟨rfl, rfl, rfl, by decide +kernel, rfl, by decide +kernel, by decide +kernel⟩
abbrev s_f_law_held_good : Stmt := top 48
theorem sc_f_law_held_good : FnScope ["kinds", "rows", "one", "two", "road", "ends"] ["kinds", "rows", "one", "two", "road"] (defScope s_f_law_held_good) := ⟨rfl, rfl, rfl, by decide +kernel, rfl, by decide +kernel, by decide +kernel⟩
abbrev s_f_law : Stmt := top 49
theorem sc_f_law : FnScope ["script", "many", "made", "house", "one", "two", "other", "at"] ["script"] (defScope s_f_law) := ⟨rfl, rfl, rfl, by decide +kernel, rfl, by decide +kernel, by decide +kernel⟩
end LW

/-! THE PROGRAM's defs -/
namespace LW
open PySem L2
section
variable {P : Program} {w : World} {K : PySem.W.Frag} {mg : Str → Option Value} {base : Heap} {C : Addr}
theorem ok_m_House_check_slot {n : Nat} {f : Addr} {fd : FuncData} (F : Fun K "check_slot" "House.check_slot" s_m_House_check_slot f fd) (T : TX K mg C)  :
    FnOk P w K mg base CX0 (n + 1) f fd ["self", "slot"] (spCheckSlot C) := by
  refine F.ok sc_m_House_check_slot (fun vs H Q E h => ?_) (fun cdv A outer s H vs Q E hr h => ?_)
  · obtain ⟨p, A', S, i, rfl, _⟩ := h
    rfl
  · obtain ⟨p, A', S, i, rfl, hh, h0, h1, k⟩ := h
    have hu := hu_of hr
    refine ⟨_, (pss_one (ps_if (PW.pt (pw_or (pt_cmpR op_lt (pv 1) pe_int (nomark _)) (pw_or1 (pt_cmpR op_ge (pv 1) (pe_callB call_len_seq (by rfl) T.g_len PySem.boot_len (pa_cons (pe_fld (pv 0) rfl) pa_nil)) (nomark _))))) (pss_one ps_never) pss_nil)), ?_⟩
    obtain ⟨ws, hs, ht⟩ := hh.sl
    refine ⟨_, rfl, _, _, rfl, rfl, _, rfl, ?_⟩
    refine iteD (by omega) ?_
    refine ⟨_, rfl, _, rfl, p, C, A'.dx, _, _, rfl, hh.ob, T.cl, T.n_slots, hf_slots, A'.sl, ws, rfl, .inl (SqL.of hs), _, _, rfl, rfl, _, rfl, ?_⟩
    refine iteD (by rw [← pr_len ht]; omega) ?_
    exact k
theorem ok_m_House_check_box {n : Nat} {f : Addr} {fd : FuncData} (F : Fun K "check_box" "House.check_box" s_m_House_check_box f fd) (T : TX K mg C)  :
    FnOk P w K mg base CX0 (n + 1) f fd ["self", "name"] (spCheckBox C) := by
  refine F.ok sc_m_House_check_box (fun vs H Q E h => ?_) (fun cdv A outer s H vs Q E hr h => ?_)
  · obtain ⟨p, A', S, n, rfl, _⟩ := h
    rfl
  · obtain ⟨p, A', S, n, rfl, hh, hn, k⟩ := h
    have hu := hu_of hr
    refine ⟨_, (pss_one (ps_if (pt_cmp (pc_dnotin hu (pv 1) (pe_fld (pv 0) rfl))) (pss_one ps_never) pss_nil)), ?_⟩
    obtain ⟨b, hb, e⟩ := List.mem_map.mp hn
    obtain ⟨i, hi⟩ := List.getElem?_of_mem hb
    have hv := hh.kindAt hi
    rw [e] at hv
    refine ⟨_, rfl, _, rfl, p, C, A'.dx, _, _, rfl, hh.ob, T.cl, T.n_kinds, hf_kinds, A'.kd, _, rfl, DGet.k (k := Sum.inl n) hh.kd, _, rfl, ?_⟩
    rw [hv]
    exact iteF k
theorem ok_m_House_check_field {n : Nat} {f : Addr} {fd : FuncData} (F : Fun K "check_field" "House.check_field" s_m_House_check_field f fd) (T : TX K mg C)  :
    FnOk P w K mg base CX0 (n + 1) f fd ["self", "name", "at"] (spCheckField C) := by
  refine F.ok sc_m_House_check_field (fun vs H Q E h => ?_) (fun cdv A outer s H vs Q E hr h => ?_)
  · obtain ⟨p, A', S, i, b, at_, rfl, _⟩ := h
    rfl
  · obtain ⟨p, A', S, i, b, at_, rfl, hh, hi, h0, h1, k⟩ := h
    have hu := hu_of hr
    refine ⟨_, (pss_one (ps_if (PW.pt (pw_or (pt_cmpR op_lt (pv 2) pe_int (nomark _)) (pw_or1 (pt_cmpR op_ge (pv 2) (pe_callB call_len_seq (by rfl) T.g_len PySem.boot_len (pa_cons (pe_dget hu (pe_fld (pv 0) rfl) (pv 1) (fun _ _ => rfl)) pa_nil)) (nomark _))))) (pss_one ps_never) pss_nil)), ?_⟩
    obtain ⟨a, ws, ha, hw, ht, hv⟩ := hh.rowAt hi
    refine ⟨_, rfl, _, _, rfl, rfl, _, rfl, ?_⟩
    refine iteD (by omega) ?_
    refine ⟨_, rfl, _, rfl, p, C, A'.dx, _, _, rfl, hh.ob, T.cl, T.n_fields, hf_fields, _, rfl, A'.fd, .ref a, rfl, ?_, a, ws, rfl, .inl (SqL.of hw), _, _, rfl, rfl, _, rfl, ?_⟩
    · rw [← hv]; exact DGet.k (k := Sum.inl b.name) hh.fd
    refine iteD (by rw [← pr_len ht]; omega) ?_
    exact k
theorem ok_m_House_names {n : Nat} {f : Addr} {fd : FuncData} (F : Fun K "names" "House.names" s_m_House_names f fd) (T : TX K mg C)  :
    FnOk P w K mg base CX0 (n + 1) f fd ["self"] (spNames C) := by
  refine F.ok sc_m_House_names (fun vs H Q E h => ?_) (fun cdv A outer s H vs Q E hr h => ?_)
  · obtain ⟨p, A', S, rfl, _⟩ := h
    rfl
  · obtain ⟨p, A', S, rfl, hh, h64, k⟩ := h
    have hu := hu_of hr
    refine ⟨_, (pss_one (ps_ret (pe_callB (call_sortedD hr.hd) (by rfl) T.g_sorted PyProof.Rows.boot_sorted (pa_cons (pe_fld (pv 0) rfl) pa_nil)))), ?_⟩
    refine ⟨_, rfl, p, C, A'.dx, _, _, rfl, hh.ob, T.cl, T.n_kinds, hf_kinds, A'.kd, _, names S, rfl, hh.kd, kindsD_keys _, by simpa [names] using h64, fun l ns' hl hp hs => ?_⟩
    rw [perm_asc hp hs hh.asc]
    exact k l hl
theorem ok_m_House_kind {n : Nat} {f : Addr} {fd : FuncData} (F : Fun K "kind" "House.kind" s_m_House_kind f fd) (T : TX K mg C) (M_check_box : MethOk P w K mg base C n "check_box" ["self", "name"] (spCheckBox C) [[]]) :
    FnOk P w K mg base CX0 (n + 1) f fd ["self", "name"] (spKind C) := by
  obtain ⟨f_check_box, fd_check_box, m_check_box, G_check_box, b_check_box⟩ := M_check_box
  refine F.ok sc_m_House_kind (fun vs H Q E h => ?_) (fun cdv A outer s H vs Q E hr h => ?_)
  · obtain ⟨p, A', S, i, b, rfl, _⟩ := h
    rfl
  · obtain ⟨p, A', S, i, b, rfl, hh, hi, k⟩ := h
    have hu := hu_of hr
    refine ⟨_, (pss_cons (ps_expr (pe_meth (pv 0) T.cl m_check_box G_check_box hr (b_check_box [] (by simp)) .nil pass0 (pa_cons (pv 1) pa_nil)))
      (pss_one (ps_ret (pe_dget hu (pe_fld (pv 0) rfl) (pv 1) (fun _ _ => rfl))))), ?_⟩
    refine ⟨_, rfl, p, A'.dx, _, rfl, hh.ob, hf_none (by decide +kernel), _, rfl, p, A', S, b.name, rfl, hh, in_names hi, ?_⟩
    refine ⟨_, rfl, p, C, A'.dx, _, _, rfl, hh.ob, T.cl, T.n_kinds, hf_kinds, _, rfl, A'.kd, .str b.kind, rfl, ?_, k⟩
    rw [← hh.kindAt hi]
    exact DGet.k (k := Sum.inl b.name) hh.kd
theorem ok_m_House_size {n : Nat} {f : Addr} {fd : FuncData} (F : Fun K "size" "House.size" s_m_House_size f fd) (T : TX K mg C) (M_check_box : MethOk P w K mg base C n "check_box" ["self", "name"] (spCheckBox C) [[]]) :
    FnOk P w K mg base CX0 (n + 1) f fd ["self", "name"] (spSize C) := by
  obtain ⟨f_check_box, fd_check_box, m_check_box, G_check_box, b_check_box⟩ := M_check_box
  refine F.ok sc_m_House_size (fun vs H Q E h => ?_) (fun cdv A outer s H vs Q E hr h => ?_)
  · obtain ⟨p, A', S, i, b, rfl, _⟩ := h
    rfl
  · obtain ⟨p, A', S, i, b, rfl, hh, hi, k⟩ := h
    have hu := hu_of hr
    refine ⟨_, (pss_cons (ps_expr (pe_meth (pv 0) T.cl m_check_box G_check_box hr (b_check_box [] (by simp)) .nil pass0 (pa_cons (pv 1) pa_nil)))
      (pss_one (ps_ret (pe_callB call_len_seq (by rfl) T.g_len PySem.boot_len (pa_cons (pe_dget hu (pe_fld (pv 0) rfl) (pv 1) (fun _ _ => rfl)) pa_nil))))), ?_⟩
    obtain ⟨a, ws, ha, hw, ht, hv⟩ := hh.rowAt hi
    refine ⟨_, rfl, p, A'.dx, _, rfl, hh.ob, hf_none (by decide +kernel), _, rfl, p, A', S, b.name, rfl, hh, in_names hi, ?_⟩
    refine ⟨_, rfl, p, C, A'.dx, _, _, rfl, hh.ob, T.cl, T.n_fields, hf_fields, _, rfl, A'.fd, .ref a, rfl, ?_, a, ws, rfl, .inl (SqL.of hw), ?_⟩
    · rw [← hv]; exact DGet.k (k := Sum.inl b.name) hh.fd
    · rw [← pr_len ht]; exact k
theorem ok_m_House_field {n : Nat} {f : Addr} {fd : FuncData} (F : Fun K "field" "House.field" s_m_House_field f fd) (T : TX K mg C) (M_check_box : MethOk P w K mg base C n "check_box" ["self", "name"] (spCheckBox C) [[]])
    (M_check_field : MethOk P w K mg base C n "check_field" ["self", "name", "at"] (spCheckField C) [[]]) :
    FnOk P w K mg base CX0 (n + 1) f fd ["self", "name", "at"] (spField C) := by
  obtain ⟨f_check_box, fd_check_box, m_check_box, G_check_box, b_check_box⟩ := M_check_box
  obtain ⟨f_check_field, fd_check_field, m_check_field, G_check_field, b_check_field⟩ := M_check_field
  refine F.ok sc_m_House_field (fun vs H Q E h => ?_) (fun cdv A outer s H vs Q E hr h => ?_)
  · obtain ⟨p, A', S, i, b, j, t, rfl, _⟩ := h
    rfl
  · obtain ⟨p, A', S, i, b, j, t, rfl, hh, hi, hj, k⟩ := h
    have hu := hu_of hr
    refine ⟨_, (pss_cons (ps_expr (pe_meth (pv 0) T.cl m_check_box G_check_box hr (b_check_box [] (by simp)) .nil pass0 (pa_cons (pv 1) pa_nil)))
      (pss_cons (ps_expr (pe_meth (pv 0) T.cl m_check_field G_check_field hr (b_check_field [] (by simp)) .nil pass0 (pa_cons (pv 1) (pa_cons (pv 2) pa_nil))))
      (pss_one (ps_ret (pe_ix ix_list (pe_dget hu (pe_fld (pv 0) rfl) (pv 1) (fun _ _ => rfl)) (pv 2) (fun _ _ => rfl)))))), ?_⟩
    obtain ⟨a, ws, ha, hw, ht, hv⟩ := hh.rowAt hi
    obtain ⟨v, hv2, tv⟩ := pr_get ht hj
    have hlt := (List.getElem?_eq_some_iff.mp hj).1
    refine ⟨_, rfl, p, A'.dx, _, rfl, hh.ob, hf_none (by decide +kernel), _, rfl, p, A', S, b.name, rfl, hh, in_names hi, ?_⟩
    refine ⟨_, rfl, p, A'.dx, _, rfl, hh.ob, hf_none (by decide +kernel), _, rfl, _, rfl, p, A', S, i, b, j, rfl, hh, hi, by omega, by omega, ?_⟩
    refine ⟨_, rfl, p, C, A'.dx, _, _, rfl, hh.ob, T.cl, T.n_fields, hf_fields, _, rfl, A'.fd, .ref a, rfl, ?_, _, rfl, a, ws, j, v, rfl, rfl, SqL.of hw, atI_nat hv2, k v tv⟩
    rw [← hv]; exact DGet.k (k := Sum.inl b.name) hh.fd
theorem ok_m_House_held {n : Nat} {f : Addr} {fd : FuncData} (F : Fun K "held" "House.held" s_m_House_held f fd) (T : TX K mg C) (M_check_slot : MethOk P w K mg base C n "check_slot" ["self", "slot"] (spCheckSlot C) [[]]) :
    FnOk P w K mg base CX0 (n + 1) f fd ["self", "slot"] (spHeld C) := by
  obtain ⟨f_check_slot, fd_check_slot, m_check_slot, G_check_slot, b_check_slot⟩ := M_check_slot
  refine F.ok sc_m_House_held (fun vs H Q E h => ?_) (fun cdv A outer s H vs Q E hr h => ?_)
  · obtain ⟨p, A', S, j, t, rfl, _⟩ := h
    rfl
  · obtain ⟨p, A', S, j, t, rfl, hh, hj, k⟩ := h
    have hu := hu_of hr
    refine ⟨_, (pss_cons (ps_expr (pe_meth (pv 0) T.cl m_check_slot G_check_slot hr (b_check_slot [] (by simp)) .nil pass0 (pa_cons (pv 1) pa_nil)))
      (pss_one (ps_ret (pe_ix ix_list (pe_fld (pv 0) rfl) (pv 1) (fun _ _ => rfl))))), ?_⟩
    obtain ⟨ws, hw, ht⟩ := hh.sl
    obtain ⟨v, hv2, tv⟩ := pr_get ht hj
    have hlt := (List.getElem?_eq_some_iff.mp hj).1
    refine ⟨_, rfl, p, A'.dx, _, rfl, hh.ob, hf_none (by decide +kernel), _, rfl, p, A', S, j, rfl, hh, by omega, by omega, ?_⟩
    exact ⟨_, rfl, p, C, A'.dx, _, _, rfl, hh.ob, T.cl, T.n_slots, hf_slots, _, rfl, A'.sl, ws, j, v, rfl, rfl, SqL.of hw, atI_nat hv2, k v tv⟩
theorem ok_f_box_thing {n : Nat} {f : Addr} {fd : FuncData} (F : Fun K "box_thing" "box_thing" s_f_box_thing f fd) (T : TX K mg C)  :
    FnOk P w K mg base CX0 (n + 1) f fd ["name"] (spBoxThing) := by
  refine F.ok sc_f_box_thing (fun vs H Q E h => ?_) (fun cdv A outer s H vs Q E hr h => ?_)
  · obtain ⟨n, rfl, _⟩ := h
    rfl
  · obtain ⟨n, rfl, k⟩ := h
    have hu := hu_of hr
    refine ⟨_, (pss_one (ps_ret (pe_tup (pa_cons pe_str (pa_cons (pv 0) pa_nil))))), ?_⟩
    exact ⟨_, rfl, by show 2 ≤ sizeLine; decide, fun a ha => k a ha⟩
theorem ok_f_box_name {n : Nat} {f : Addr} {fd : FuncData} (F : Fun K "box_name" "box_name" s_f_box_name f fd) (T : TX K mg C)  :
    FnOk P w K mg base CX0 (n + 1) f fd ["thing"] (spBoxName) := by
  refine F.ok sc_f_box_name (fun vs H Q E h => ?_) (fun cdv A outer s H vs Q E hr h => ?_)
  · obtain ⟨v, t, rfl, _⟩ := h
    rfl
  · obtain ⟨v, t, rfl, tv, k⟩ := h
    have hu := hu_of hr
    refine ⟨_, (pss_cons (ps_if (pt_val (pe_callB call_isi (by rfl) T.g_isi PyProof.Rows.boot_isinstance (pa_cons (pv 0) (pa_cons (pe_bltn (v := .ty "tuple") (by rfl) T.g_tuple PyProof.Rows.boot_tuple rfl) pa_nil)))) (pss_one (ps_ret (pe_ix ix_tup (pv 0) pe_int (fun _ _ => rfl)))) pss_nil)
      (pss_one (ps_ret pe_non))), ?_⟩
    cases t with
    | non =>
      cases (show v = .non from tv)
      exact ⟨_, rfl, _, "tuple", _, false, rfl, .non, sub_nt K, _, rfl, iteF k⟩
    | num i =>
      cases (show v = .int i from tv)
      exact ⟨_, rfl, _, "tuple", _, false, rfl, .int i, sub_it K, _, rfl, iteF k⟩
    | box n =>
      obtain ⟨a, rfl, q⟩ := tv
      exact ⟨_, rfl, _, "tuple", _, true, rfl, .tup q, kit_same _ _, _, rfl, iteT ⟨_, rfl, a, _, 1, .int n, rfl, rfl, SqT.of q, rfl, k⟩⟩
theorem ok_f_renamed {n : Nat} {f : Addr} {fd : FuncData} (F : Fun K "renamed" "renamed" s_f_renamed f fd) (T : TX K mg C) (D_box_name : DefOk P w K mg base n "box_name" ["thing"] (spBoxName) [[]])
    (D_box_thing : DefOk P w K mg base n "box_thing" ["name"] (spBoxThing) [[]]) :
    FnOk P w K mg base CX0 (n + 1) f fd ["thing", "new_names"] (spRenamed) := by
  obtain ⟨f_box_name, fd_box_name, n_box_name, k_box_name, J_box_name, c_box_name⟩ := D_box_name
  obtain ⟨f_box_thing, fd_box_thing, n_box_thing, k_box_thing, J_box_thing, c_box_thing⟩ := D_box_thing
  refine F.ok sc_f_renamed (fun vs H Q E h => ?_) (fun cdv A outer s H vs Q E hr h => ?_)
  · obtain ⟨v, t, a, ns, rfl, _⟩ := h
    rfl
  · obtain ⟨v, t, a, ns, rfl, tv, ha, k⟩ := h
    have hu := hu_of hr
    refine ⟨_, (pss_cons (ps_set (i := 2) sc_f_renamed.nd rfl (Or.inl rfl) (pe_call J_box_name hr (by rfl) n_box_name k_box_name (c_box_name [] (by simp)) .nil pass0 (pa_cons (pv 0) pa_nil)))
      (pss_cons (ps_if (pt_cmp (pc_isN (pv 2))) (pss_one (ps_ret (pv 0))) pss_nil)
      (pss_one (ps_ret (pe_call J_box_thing hr (by rfl) n_box_thing k_box_thing (c_box_thing [] (by simp)) .nil pass0 (pa_cons (pe_ix ix_list (pv 1) (pv 2) (fun _ _ => rfl)) pa_nil)))))), ?_⟩
    refine ⟨_, rfl, v, t, rfl, tv, ?_⟩
    cases t with
    | non => exact ⟨_, rfl, _, rfl, iteT ⟨_, rfl, k⟩⟩
    | num i => exact ⟨_, rfl, _, rfl, iteT ⟨_, rfl, k⟩⟩
    | box n =>
      obtain ⟨j, m, rfl, hj, k⟩ := k
      exact ⟨_, rfl, _, rfl, iteF ⟨_, rfl, _, rfl, a, _, j, .int m, rfl, rfl, SqL.of ha, atI_nat (by rw [List.getElem?_map, hj]; rfl), m, rfl, k⟩⟩
theorem ok_m_House_has_room {n : Nat} {f : Addr} {fd : FuncData} (F : Fun K "has_room" "House.has_room" s_m_House_has_room f fd) (T : TX K mg C)  :
    FnOk P w K mg base CX0 (n + 1) f fd ["self", "count"] (spHasRoom C) := by
  refine F.ok sc_m_House_has_room (fun vs H Q E h => ?_) (fun cdv A outer s H vs Q E hr h => ?_)
  · obtain ⟨p, A', S, n, rfl, _⟩ := h
    rfl
  · obtain ⟨p, A', S, n, rfl, hh, k⟩ := h
    have hu := hu_of hr
    refine ⟨_, (pss_one (ps_ret (pe_cmpR op_le (pe_op op_add (pe_callB call_lenD (by rfl) T.g_len PySem.boot_len (pa_cons (pe_fld (pv 0) rfl) pa_nil)) (pv 1)) (pe_fld (pv 0) rfl) (nomark _)))), ?_⟩
    refine ⟨_, rfl, p, C, A'.dx, _, _, rfl, hh.ob, T.cl, T.n_kinds, hf_kinds, A'.kd, _, rfl, hh.kd, _, rfl, _, _, rfl, rfl, _, rfl, p, C, A'.dx, _, _, rfl, hh.ob, T.cl, T.n_room, hf_room, _, _, rfl, rfl, ?_⟩
    have e : (kindsD S.boxes).length = S.boxes.length := by simp [kindsD]
    rw [e]
    exact k
theorem ok_m_House_make_room {n : Nat} {f : Addr} {fd : FuncData} {ds : List Value} (F : FunD K "make_room" "House.make_room" s_m_House_make_room f fd ds) (T : TX K mg C) (M_has_room : MethOk P w K mg base C n "has_room" ["self", "count"] (spHasRoom C) [[]]) :
    FnOk P w K mg base CX0 (n + 1) f fd ["self", "count", "besides"] (spMakeRoom0 C) := by
  obtain ⟨f_has_room, fd_has_room, m_has_room, G_has_room, b_has_room⟩ := M_has_room
  refine F.ok sc_m_House_make_room (fun vs H Q E h => ?_) (fun cdv A outer s H vs Q E hr h => ?_)
  · obtain ⟨p, A', S, n, v, rfl, _⟩ := h
    rfl
  · obtain ⟨p, A', S, n, v, rfl, hh, hn, k⟩ := h
    have hu := hu_of hr
    refine ⟨_, (pss_one (ps_if (pt_not (pt_val (pe_meth (pv 0) T.cl m_has_room G_has_room hr (b_has_room [] (by simp)) .nil pass0 (pa_cons (pv 1) pa_nil)))) pss_never pss_nil)), ?_⟩
    refine ⟨_, rfl, p, A'.dx, _, rfl, hh.ob, hf_none (by decide +kernel), _, rfl, p, A', S, n, rfl, hh, _, rfl, ?_⟩
    rw [decide_eq_true hn]
    exact iteF k
theorem bs_m_House_build_0 : BlkScope (defScope s_m_House_build) ["self", "draft", "slot", "new_names", "name", "row"] (compScope ((asgVal (stAt (defBody s_m_House_build) 1)))) "place" ["self"] [0] :=
  ⟨by rfl, by decide +kernel, by decide +kernel, by decide +kernel, by rfl, by decide +kernel, by rfl, by decide +kernel⟩
theorem bs_m_House_build_1 : BlkScope (defScope s_m_House_build) ["self", "draft", "slot", "new_names", "name", "row"] (compScope ((asgVal (stAt (forBody (stAt (defBody s_m_House_build) 2)) 1)))) "thing" ["new_names"] [3] :=
  ⟨by rfl, by decide +kernel, by decide +kernel, by decide +kernel, by rfl, by decide +kernel, by rfl, by decide +kernel⟩
theorem ok_m_House_build {n : Nat} {f : Addr} {fd : FuncData} (F : Fun K "build" "House.build" s_m_House_build f fd) (T : TX K mg C) (gz : mg "zip" = none) (M_has_room : MethOk P w K mg base C n "has_room" ["self", "count"] (spHasRoom C) [[]])
    (D_renamed : DefOk P w K mg base n "renamed" ["thing", "new_names"] (spRenamed) [[]])
    (D_box_thing : DefOk P w K mg base n "box_thing" ["name"] (spBoxThing) [[]]) :
    FnOk P w K mg base CX0 (n + 1) f fd ["self", "draft", "slot"] (spBuild1 C) := by
  obtain ⟨f_has_room, fd_has_room, m_has_room, G_has_room, b_has_room⟩ := M_has_room
  obtain ⟨f_renamed, fd_renamed, n_renamed, k_renamed, J_renamed, c_renamed⟩ := D_renamed
  obtain ⟨f_box_thing, fd_box_thing, n_box_thing, k_box_thing, J_box_thing, c_box_thing⟩ := D_box_thing
  refine F.ok sc_m_House_build (fun vs H Q E h => ?_) (fun cdv A outer s H vs Q E hr h => ?_)
  · obtain ⟨p, A', S, kind, n, slot, ad, at_, al, rfl, _⟩ := h
    rfl
  · obtain ⟨p, A', S, kind, n, slot, ad, at_, al, rfl, hh, had, hat, hal, hn, hb, hroom, hs, k⟩ := h
    have hu := hu_of hr
    refine ⟨_, (pss_cons (ps_if (pt_not (pt_val (pe_meth (pv 0) T.cl m_has_room G_has_room hr (b_has_room [] (by simp)) .nil pass0 (pa_cons (pe_callB call_len_seq (by rfl) T.g_len PySem.boot_len (pa_cons (pv 1) pa_nil)) pa_nil)))) pss_never pss_nil)
      (pss_cons (ps_set (i := 3) sc_m_House_build.nd rfl (Or.inr rfl) (pe_comp bs_m_House_build_0 rfl (pi_range1 (by rfl) T.g_range (pa_cons (pe_callB call_len_seq (by rfl) T.g_len PySem.boot_len (pa_cons (pv 1) pa_nil)) pa_nil)) (fun _ _ _ _ => pifs_nil) (fun _ _ _ _ => (pe_op op_add (pe_op op_add (pek_fld (K' := K) rfl (pv 1) rfl) pe_int) (pv 0)))))
      (pss_cons (ps_for PassesOwn.never rfl (pi_zip (by rfl) gz (pa_cons (pv 3) (pa_cons (pv 1) pa_nil))) (pg_pair rfl sc_m_House_build.nd (i := 4) (j := 5) rfl rfl (Or.inl rfl) (Or.inl rfl))
      (pss_cons (ps_dput hu (pe_fld (pv 0) rfl) (pv 4) (pe_ix ix_tup (pv 5) pe_int (fun _ _ => rfl)) rfl)
      (pss_one (ps_dput hu (pe_fld (pv 0) rfl) (pv 4) (pe_comp bs_m_House_build_1 rfl (pi_list (pe_ix ix_tup (pv 5) pe_int (fun _ _ => rfl))) (fun _ _ _ _ => pifs_nil) (fun _ _ _ _ => (pe_call J_renamed hr (by rfl) n_renamed k_renamed (c_renamed [] (by simp)) .nil pass0 (pa_cons (pv 0) (pa_cons (pv 1) pa_nil))))) rfl))))
      (pss_cons (ps_fld (pv 0) (pe_ix ix_list (pv 3) (pe_un un_neg pe_int) (fun _ _ => rfl)) rfl)
      (pss_cons (ps_asg (pe_call J_box_thing hr (by rfl) n_box_thing k_box_thing (c_box_thing [] (by simp)) .nil pass0 (pa_cons (pe_ix ix_list (pv 3) pe_int (fun _ _ => rfl)) pa_nil)) (pg_sub (pe_fld (pv 0) rfl) (pv 2) set_list))
      (pss_one (ps_ret (pe_ix ix_list (pv 3) pe_int (fun _ _ => rfl))))))))), ?_⟩
    have ne1 : p ≠ A'.kd := ne_of hh.ob hh.kd (by intro z; cases z)
    have ne2 : p ≠ A'.fd := ne_of hh.ob hh.fd (by intro z; cases z)
    have neL : ∀ b ∈ A'.lists, b ≠ p ∧ b ≠ A'.kd ∧ b ≠ A'.fd := fun b hb => by
      obtain ⟨vs, q⟩ := hh.isL b hb
      exact ⟨ne_of q hh.ob (by intro z; cases z), ne_of q hh.kd (by intro z; cases z), ne_of q hh.fd (by intro z; cases z)⟩
    have len : (hFlds A' S).length < 1000 := by show 7 < 1000; decide
    have kl : (kindsD S.boxes).length = S.boxes.length := by simp [kindsD]
    have fl : (fieldsD S.boxes A'.fl).length = S.boxes.length := by simp [fieldsD, pr_len hh.fl]
    -- if not self.has_room(len(draft))
    refine ⟨_, rfl, p, A'.dx, _, rfl, hh.ob, hf_none (by decide +kernel), _, rfl, ad, _, rfl, .inl (SqL.of had), p, A', S, _, rfl, hh, _, rfl, ?_⟩
    rw [decide_eq_true (by show (S.boxes.length : Int) + (([V.ref at_].length : Nat) : Int) ≤ S.room; simp; omega)]
    refine iteF ?_
    -- new_names
    refine ⟨_, rfl, ad, _, rfl, .inl (SqL.of had), 1, rfl, by decide, by decide, ?_⟩
    refine comp_range (lo := 0) (n := 1) (fun i ys H' => H' = H ∧ ys = (intsUp (S.last + 1) i).map V.int) ⟨rfl, rfl⟩ ?_ (len_small (by omega)) ?_ ?_
    · rintro i ys H' ⟨_, rfl⟩
      rw [List.length_map, intsUp_length]; exact Nat.le_refl _
    · rintro i ys H' hi ⟨rfl, rfl⟩
      dsimp only [tNoIf]
      refine iteT ⟨_, rfl, p, C, A'.dx, _, _, rfl, hh.ob, T.cl, T.n_last, hf_last, _, _, rfl, rfl, _, rfl, _, _, rfl, rfl, rfl, ?_⟩
      rw [intsUp_snoc, List.map_append]
      show _ = _ ++ [V.int (S.last + 1 + (i : Int))]
      rw [Int.zero_add]
    · rintro ys H' ⟨rfl, rfl⟩ ln hln
      have e1 : (intsUp (S.last + 1) 1).map V.int = [V.int (S.last + 1)] := by simp [intsUp]
      rw [e1]
      have d1 : (upd H' ln (.lst [V.int (S.last + 1)])) ln = some (.lst [V.int (S.last + 1)]) := upd_same
      generalize eH1 : upd H' ln (.lst [V.int (S.last + 1)]) = H1 at d1
      have s1 : Same H' H1 := by rw [← eH1]; exact Same.new hln
      have fresh : ¬ (S.last + 1) ∈ S.boxes.map (·.name) := fun m => by
        obtain ⟨b, hb, e⟩ := List.mem_map.mp m
        have := hh.top b hb
        omega
      have pk : putK (kindsD S.boxes) (Sum.inl (S.last + 1) : Key) (V.str kind) = kindsD S.boxes ++ [((Sum.inl (S.last + 1) : Key), V.str kind)] := putK_new _ (hh.noName fresh)
      have pf : ∀ l, putK (fieldsD S.boxes A'.fl) (Sum.inl (S.last + 1) : Key) (V.ref l) = fieldsD S.boxes A'.fl ++ [((Sum.inl (S.last + 1) : Key), V.ref l)] := fun l => putK_new _ (by
        refine valV_out ?_
        rw [fieldsD_keys (pr_len hh.fl)]
        intro m
        obtain ⟨b, hb, q⟩ := List.mem_map.mp m
        rw [Sum.inl.inj q] at hb
        exact fresh hb)
      -- the loop
      refine ⟨_, rfl, _, rfl, ln, ad, _, _, rfl, d1, s1 _ _ had, ?_⟩
      refine for_zip (xs := [V.int (S.last + 1)]) (ys := [V.ref at_]) (fun i σ H2 => ∃ v_name v_row, σ = [some (.ref p), some (.ref ad), some (.int slot), some (.ref ln), v_name, v_row] ∧ H2 ln = some (.lst [V.int (S.last + 1)]) ∧ H2 ad = some (.lst [V.ref at_]) ∧
        ((i = 0 ∧ H2 = H1) ∨ (i = 1 ∧ ∃ l, H' l = none ∧ H2 p = some (.ins C A'.dx (hFlds A' S)) ∧ H2 A'.kd = some (.dK (kindsD S.boxes ++ [((Sum.inl (S.last + 1) : Key), V.str kind)])) ∧
          H2 A'.fd = some (.dK (fieldsD S.boxes A'.fl ++ [((Sum.inl (S.last + 1) : Key), V.ref l)])) ∧ H2 l = some (.lst (List.replicate n .non)) ∧ ∀ b o, H' b = some o → b ≠ A'.kd → b ≠ A'.fd → H2 b = some o))) rfl
        ⟨_, _, rfl, d1, s1 _ _ had, .inl ⟨rfl, rfl⟩⟩ (fun i σ H2 _ ⟨_, _, _, a1, a2, _⟩ => ⟨a1, a2⟩) ?_ ?_
      · rintro i x y σ H2 pp hx hy ⟨v1, v2, rfl, a1, a2, ⟨rfl, rfl⟩ | ⟨rfl, _⟩⟩ hpp
        · cases hx
          cases hy
          refine ⟨pp, _, _, rfl, upd_same, ?_⟩
          have s2 : Same H' (upd H2 pp (.tup [V.int (S.last + 1), V.ref at_])) := s1.trans (Same.new hpp)
          have f2 : (upd H2 pp (.tup [V.int (S.last + 1), V.ref at_])) ln = some (.lst [V.int (S.last + 1)]) := kp_n d1 hpp
          generalize upd H2 pp (.tup [V.int (S.last + 1), V.ref at_]) = H3 at s2 f2 ⊢
          have hh3 := hh.same s2
          -- self.kinds[name] = row[0]
          refine ⟨_, rfl, at_, _, 0, _, rfl, rfl, SqT.of (s2 _ _ hat), rfl, _, rfl, p, C, A'.dx, _, _, rfl, hh3.ob, T.cl, T.n_kinds, hf_kinds, _, rfl, A'.kd, _, rfl, DPut.k (k := Sum.inl (S.last + 1)) hh3.kd (small1000 (by omega)), ?_⟩
          rw [pk]
          have k4 : ∀ b o, H3 b = some o → b ≠ A'.kd → (upd H3 A'.kd (.dK (kindsD S.boxes ++ [((Sum.inl (S.last + 1) : Key), V.str kind)]))) b = some o := fun b o q nb => by rw [upd_ne nb]; exact q
          have e4 : (upd H3 A'.kd (.dK (kindsD S.boxes ++ [((Sum.inl (S.last + 1) : Key), V.str kind)]))) A'.kd = some (.dK (kindsD S.boxes ++ [((Sum.inl (S.last + 1) : Key), V.str kind)])) := upd_same
          have u4 : ∀ b, (upd H3 A'.kd (.dK (kindsD S.boxes ++ [((Sum.inl (S.last + 1) : Key), V.str kind)]))) b = none → H3 b = none := fun b z => un_p z
          generalize upd H3 A'.kd (.dK (kindsD S.boxes ++ [((Sum.inl (S.last + 1) : Key), V.str kind)])) = H4 at k4 e4 u4 ⊢
          have hat4 := k4 _ _ (s2 _ _ hat) (ne_of (s2 _ _ hat) hh3.kd (by intro z; cases z))
          have hal4 := k4 _ _ (s2 _ _ hal) (ne_of (s2 _ _ hal) hh3.kd (by intro z; cases z))
          have hln4 := k4 _ _ f2 (ne_of f2 hh3.kd (by intro z; cases z))
          have had4 := k4 _ _ (s2 _ _ had) (ne_of (s2 _ _ had) hh3.kd (by intro z; cases z))
          have hp4 := k4 _ _ hh3.ob ne1
          have hf4 := k4 _ _ hh3.fd hh3.kf.symm
          -- self.fields[name] = [renamed(thing, new_names) for thing in row[1]]
          refine ⟨_, rfl, at_, _, 1, _, rfl, rfl, SqT.of hat4, rfl, al, rfl, ⟨_, SqL.of hal4⟩, ?_⟩
          refine comp_list (xs := List.replicate n V.non) (fun j ys H5 => H5 = H4 ∧ ys = List.replicate j V.non) ⟨rfl, rfl⟩ ?_ (len_small (by simp; omega)) ?_ ?_ ?_
          · rintro j ys H5 ⟨_, rfl⟩
            simp
          · rintro j ys H5 _ ⟨rfl, _⟩
            exact SqL.of hal4
          · rintro j x ys H5 hx ⟨rfl, rfl⟩
            dsimp only [tNoIf]
            have ex : x = .non := List.eq_of_mem_replicate (List.mem_of_getElem? hx)
            subst ex
            refine iteT ⟨_, rfl, _, rfl, V.non, LW.T.non, ln, [S.last + 1], rfl, rfl, hln4, rfl, ?_⟩
            rw [List.replicate_succ']
          · rintro ys H5 ⟨rfl, rfl⟩ l hl
            rw [List.length_replicate]
            have nl := s2.free (u4 l hl)
            have lf : l ≠ A'.fd := (ne_of_none hh.fd nl).symm
            refine ⟨_, rfl, p, C, A'.dx, _, _, rfl, kp_n hp4 hl, T.cl, T.n_fields, hf_fields, _, rfl, A'.fd, _, rfl, DPut.k (kvs := fieldsD S.boxes A'.fl) (k := Sum.inl (S.last + 1)) (kp_n hf4 hl) (small1000 (by omega)), ?_⟩
            rw [pf]
            have up : ∀ {b o}, H5 b = some o → b ≠ A'.fd → (upd (upd H5 l (.lst (List.replicate n V.non))) A'.fd (.dK (fieldsD S.boxes A'.fl ++ [((Sum.inl (S.last + 1) : Key), V.ref l)]))) b = some o := fun q nb => by rw [upd_ne nb]; exact kp_n q hl
            refine ⟨_, _, rfl, up hln4 (ne_of hln4 hf4 (by intro z; cases z)), up had4 (ne_of had4 hf4 (by intro z; cases z)), .inr ⟨rfl, l, nl, up hp4 ne2, up e4 hh.kf, upd_same, by rw [upd_ne lf]; exact upd_same, fun b o q n1 n2 => up (k4 _ _ (s2 _ _ q) n1) n2⟩⟩
        · simp at hx
      · rintro σ H2 ⟨v1, v2, rfl, a1, a2, ⟨z, _⟩ | ⟨_, l, nl, b1, b2, b3, b4, b5⟩⟩
        · cases z
        -- self.last_name = new_names[-1]
        refine ⟨_, rfl, _, rfl, ln, _, -1, _, rfl, rfl, SqL.of a1, rfl, _, rfl, p, C, A'.dx, _, rfl, b1, T.cl, T.n_last, len, ?_⟩
        rw [hFlds_put]
        have nlp : l ≠ p := (ne_of_none hh.ob nl).symm
        have nll : ∀ b ∈ A'.lists, b ≠ l := fun b hb => by
          obtain ⟨vs, q⟩ := hh.isL b hb
          exact ne_of_none q nl
        have hh3 : HouseAt C (upd H2 p (.ins C A'.dx (hFlds A' { S with last := S.last + 1 }))) p { A' with fl := A'.fl ++ [l] } (S.built kind n) := by
          refine hh.built (l := l) upd_same (by rw [upd_ne ne1.symm]; exact b2) (by rw [upd_ne ne2.symm]; exact b3) (by rw [upd_ne nlp]; exact b4) (fun z => nll l z rfl) (fun b hb => ?_) fun b xs q => ?_
          · obtain ⟨a1, a2, a3⟩ := neL b hb
            obtain ⟨vs, q⟩ := hh.isL b hb
            rw [upd_ne a1, b5 _ _ q a2 a3, q]
          · rw [upd_ne (ne_of q hh.ob (by intro z; cases z))]
            exact b5 _ _ q (ne_of q hh.kd (by intro z; cases z)) (ne_of q hh.fd (by intro z; cases z))
        have a3 : (upd H2 p (.ins C A'.dx (hFlds A' { S with last := S.last + 1 }))) ln = some (.lst [V.int (S.last + 1)]) := by rw [upd_ne (ne_of a1 b1 (by intro z; cases z))]; exact a1
        have b6 : ∀ b o, H' b = some o → b ≠ p → b ≠ A'.kd → b ≠ A'.fd → (upd H2 p (.ins C A'.dx (hFlds A' { S with last := S.last + 1 }))) b = some o := fun b o q n0 n1 n2 => by rw [upd_ne n0]; exact b5 b o q n1 n2
        generalize upd H2 p (.ins C A'.dx (hFlds A' { S with last := S.last + 1 })) = H3 at hh3 a3 b6 ⊢
        -- self.slots[slot] = box_thing(new_names[0])
        refine ⟨_, rfl, ln, _, 0, _, rfl, rfl, SqL.of a3, rfl, S.last + 1, rfl, fun a ha => ?_⟩
        have hh4 := hh3.new (o := .tup [.str "box", .int (S.last + 1)]) ha
        obtain ⟨ws, hw, ht⟩ := hh4.sl
        have hl : ws.length = S.slots.length := (pr_len ht).symm
        refine ⟨_, rfl, p, C, A'.dx, _, _, rfl, hh4.ob, T.cl, T.n_slots, hf_slots, _, rfl, A'.sl, ws, slot, slot, rfl, rfl, hw, ixN_nat (by omega), ?_⟩
        have nls : ln ≠ A'.sl := fun e => by
          obtain ⟨vs, q⟩ := hh.isL A'.sl (by simp [HA.lists])
          rw [← e, hln] at q; cases q
        refine ⟨_, rfl, ln, _, 0, _, rfl, rfl, SqL.of (by rw [upd_ne nls]; exact kp_n a3 ha), rfl, ?_⟩
        have hh5 := hh4.setSlot (j := slot) (t := .box (S.last + 1)) (v := .ref a) hw ht ⟨a, rfl, upd_same⟩
        refine k { A' with fl := A'.fl ++ [l] } _ hh5 (fun b o q nb => ?_) (fun b xs q => ?_) (fun b hb => ?_)
        · have nb : b ≠ p ∧ b ≠ A'.kd ∧ b ≠ A'.fd ∧ b ≠ A'.sl := by simp [HA.foot, HA.lists] at nb; exact ⟨nb.1, nb.2.1, nb.2.2.1, nb.2.2.2.1⟩
          rw [upd_ne nb.2.2.2]
          exact kp_n (b6 b o q nb.1 nb.2.1 nb.2.2.1) ha
        · have q3 := b6 b _ q (ne_of q hh.ob (by intro z; cases z)) (ne_of q hh.kd (by intro z; cases z)) (ne_of q hh.fd (by intro z; cases z))
          have q4 := kp_n (o := .tup [.str "box", .int (S.last + 1)]) q3 ha
          rw [upd_ne (ne_of q4 hw (by intro z; cases z))]
          exact q4
        · have hb : b = l ∨ b ∈ A'.foot p := by
            simp only [HA.foot, HA.lists, List.mem_cons, List.mem_append, List.not_mem_nil, or_false] at hb ⊢
            rcases hb with h | h | h | h | h | h | (h | h) | h | h <;> simp [h]
          rcases hb with e | e
          · right; rw [e]; exact nl
          · exact .inl e
theorem ok_m_House_make {n : Nat} {f : Addr} {fd : FuncData} {ds : List Value} (F : FunD K "make" "House.make" s_m_House_make f fd ds) (T : TX K mg C) {aF : Addr} (hF : mg "FIXED_SIZES" = some (.ref aF)) (KD : KDict P w K aF fixed) (M_check_slot : MethOk P w K mg base C n "check_slot" ["self", "slot"] (spCheckSlot C) [[]])
    (M_make_room : MethOk P w K mg base C n "make_room" ["self", "count", "besides"] (spMakeRoom0 C) [[], [.none]])
    (M_build : MethOk P w K mg base C n "build" ["self", "draft", "slot"] (spBuild1 C) [[]]) :
    FnOk P w K mg base CX0 (n + 1) f fd ["self", "kind", "size", "slot"] (spMake0 C) := by
  obtain ⟨f_check_slot, fd_check_slot, m_check_slot, G_check_slot, b_check_slot⟩ := M_check_slot
  obtain ⟨f_make_room, fd_make_room, m_make_room, G_make_room, b_make_room⟩ := M_make_room
  obtain ⟨f_build, fd_build, m_build, G_build, b_build⟩ := M_build
  refine F.ok sc_m_House_make (fun vs H Q E h => ?_) (fun cdv A outer s H vs Q E hr h => ?_)
  · obtain ⟨p, A', S, kind, size, slot, rfl, _⟩ := h
    rfl
  · obtain ⟨p, A', S, kind, size, slot, rfl, hh, h0, h1, hb, hroom, hs, k⟩ := h
    have hu := hu_of hr
    refine ⟨_, (pss_cons (ps_expr (pe_meth (pv 0) T.cl m_check_slot G_check_slot hr (b_check_slot [] (by simp)) .nil pass0 (pa_cons (pv 3) pa_nil)))
      (pss_cons (ps_expr (pe_meth (pv 0) T.cl m_make_room G_make_room hr (b_make_room [.none] (by simp)) vals_n pass0 (pa_cons pe_int pa_nil)))
      (pss_one (ps_ret (pe_meth (pv 0) T.cl m_build G_build hr (b_build [] (by simp)) .nil pass0 (pa_cons (pe_lst (pa_cons (pe_tup (pa_cons (pv 1) (pa_cons (pe_op op_rep (pe_lst (pa_cons pe_non pa_nil)) (pe_kget2 KD (by rfl) hF (pv 1) (pv 2) ⟨rfl, rfl, rfl, rfl⟩)) pa_nil))) pa_nil)) (pa_cons (pv 3) pa_nil))))))), ?_⟩
    refine ⟨_, rfl, p, A'.dx, _, rfl, hh.ob, hf_none (by decide +kernel), _, rfl, p, A', S, slot, rfl, hh, by omega, by omega, ?_⟩
    refine ⟨_, rfl, p, A'.dx, _, rfl, hh.ob, hf_none (by decide +kernel), p, A', S, 1, .non, rfl, hh, by omega, ?_⟩
    refine ⟨_, rfl, p, A'.dx, _, rfl, hh.ob, hf_none (by decide +kernel), _, rfl, by decide, fun l0 hl0 => ⟨_, rfl, _, rfl, Sum.inr kind, rfl, ?_⟩⟩
    rw [fixed_get]
    refine ⟨l0, _, [V.non], rfl, rfl, upd_same, by omega, by omega, by rw [PySem.sizeLine_eq]; simp; omega, fun l hl => ?_⟩
    rw [flat_rep]
    refine ⟨by show 2 ≤ sizeLine; decide, fun t ht => ⟨by show 1 ≤ sizeLine; decide, fun d hd => ?_⟩⟩
    have s1 : Same H (upd H l0 (.lst [V.non])) := Same.new hl0
    have s2 := s1.trans (Same.new (o := .lst (List.replicate (sizeOf kind size).toNat V.non)) hl)
    have s3 := s2.trans (Same.new (o := .tup [.str kind, .ref l]) ht)
    have s4 := s3.trans (Same.new (o := .lst [.ref t]) hd)
    refine ⟨_, rfl, p, A', S, kind, (sizeOf kind size).toNat, slot, d, t, l, rfl, hh.same s4, upd_same, kp_n upd_same hd, kp_n (kp_n upd_same ht) hd, by omega, hb, hroom, hs, fun A2 H2 hh2 fr2 tu2 gr2 => ?_⟩
    exact k A2 H2 hh2 (fun b o q nb => fr2 b o (s4 b o q) nb) ((Tups.of_same s4).trans tu2) (fun b hb => (gr2 b hb).imp id fun z => s4.free z)
theorem bs_m_House_init_0 : BlkScope (defScope s_m_House_init) ["self", "room", "slots"] (compScope ((asgVal (stAt (defBody s_m_House_init) 5)))) "guard" [] [] :=
  ⟨by rfl, by decide +kernel, by decide +kernel, by decide +kernel, by rfl, by decide +kernel, by rfl, by decide +kernel⟩
theorem bs_m_House_init_1 : BlkScope (defScope s_m_House_init) ["self", "room", "slots"] (compScope ((asgVal (stAt (defBody s_m_House_init) 6)))) "guard" [] [] :=
  ⟨by rfl, by decide +kernel, by decide +kernel, by decide +kernel, by rfl, by decide +kernel, by rfl, by decide +kernel⟩
theorem ok_m_House_init {n : Nat} {f : Addr} {fd : FuncData} {ds : List Value} (F : FunD K "__init__" "House.__init__" s_m_House_init f fd ds) (T : TX K mg C)  :
    FnOk P w K mg base CX0 (n + 1) f fd ["self", "room", "slots"] (spInit C) := by
  refine F.ok sc_m_House_init (fun vs H Q E h => ?_) (fun cdv A outer s H vs Q E hr h => ?_)
  · obtain ⟨p, dx, room, n, rfl, _⟩ := h
    rfl
  · obtain ⟨p, dx, room, n, rfl, hp, h0, h1, k⟩ := h
    have hu := hu_of hr
    obtain ⟨tG, htG⟩ := T.g_guards
    refine ⟨_, (pss_cons (ps_fld (pv 0) (pv 1) rfl)
      (pss_cons (ps_fld (pv 0) (pe_op op_rep (pe_lst (pa_cons pe_non pa_nil)) (pv 2)) rfl)
      (pss_cons (ps_fld (pv 0) pe_int rfl)
      (pss_cons (ps_fld (pv 0) pe_dnewK rfl)
      (pss_cons (ps_fld (pv 0) pe_dnewK rfl)
      (pss_cons (ps_fld (pv 0) (pe_comp bs_m_House_init_0 rfl (pi_range1 (by rfl) T.g_range (pa_cons (pe_glob (v := .int 4) (by rfl) htG ⟨tG, rfl⟩) pa_nil)) (fun _ _ _ _ => pifs_nil) (fun _ _ _ _ => (pe_lst pa_nil))) rfl)
      (pss_one (ps_fld (pv 0) (pe_comp bs_m_House_init_1 rfl (pi_range1 (by rfl) T.g_range (pa_cons (pe_glob (v := .int 4) (by rfl) htG ⟨tG, rfl⟩) pa_nil)) (fun _ _ _ _ => pifs_nil) (fun _ _ _ _ => (pe_lst pa_nil))) rfl)))))))), ?_⟩
    -- self.room = room
    refine ⟨_, rfl, _, rfl, p, C, dx, _, rfl, hp, T.cl, T.n_room, (by show 0 < 1000; decide), ?_⟩
    -- self.slots = [None] * slots
    refine ⟨by decide, fun l0 hl0 => ⟨_, rfl, l0, _, [V.non], rfl, rfl, upd_same, by omega, by omega, by rw [PySem.sizeLine_eq]; simp; omega, fun l hl => ?_⟩⟩
    rw [flat_rep]
    have p0 : p ≠ l0 := ne_of_none upd_same hl0
    have p1 : p ≠ l := ne_of_none (by rw [upd_ne p0]; exact upd_same) hl
    refine ⟨_, rfl, p, C, dx, _, rfl, (by rw [upd_ne p1, upd_ne p0]; exact upd_same), T.cl, T.n_slots, (by show 1 < 1000; decide), ?_⟩
    -- self.last_name = 0
    refine ⟨_, rfl, p, C, dx, _, rfl, upd_same, T.cl, T.n_last, (by show 2 < 1000; decide), ?_⟩
    -- self.kinds = {}
    intro d1 hd1
    have p2 : p ≠ d1 := ne_of_none upd_same hd1
    refine ⟨_, rfl, p, C, dx, _, rfl, (by rw [upd_ne p2]; exact upd_same), T.cl, T.n_kinds, (by show 3 < 1000; decide), ?_⟩
    -- self.fields = {}
    intro d2 hd2
    have p3 : p ≠ d2 := ne_of_none upd_same hd2
    refine ⟨_, rfl, p, C, dx, _, rfl, (by rw [upd_ne p3]; exact upd_same), T.cl, T.n_fields, (by show 4 < 1000; decide), ?_⟩
    -- self.queues = ..
    dsimp only [tSeq, sFld]
    refine comp4 fun as Ha la na ha sa q hq => ?_
    have eP := sa p _ upd_same
    have p4 : p ≠ q := ne_of_none eP hq
    refine ⟨_, rfl, p, C, dx, _, rfl, (by rw [upd_ne p4]; exact eP), T.cl, T.n_queues, (by show 5 < 1000; decide), ?_⟩
    -- self.told = ..
    refine comp4 fun bs Hb lb nb hb sb tt htt => ?_
    have eP2 := sb p _ upd_same
    have p5 : p ≠ tt := ne_of_none eP2 htt
    refine ⟨_, rfl, p, C, dx, _, rfl, (by rw [upd_ne p5]; exact eP2), T.cl, T.n_told, (by show 6 < 1000; decide), ?_⟩
    rw [init_flds]
    -- what lies where
    have eL := sa l _ (kp_p (kp_n (kp_p (kp_n (kp_p (kp_p upd_same p1.symm) p1.symm) hd1) p1.symm) hd2) p1.symm)
    have eD1 := sa d1 _ (kp_p (kp_n (kp_p upd_same p2.symm) hd2) p2.symm)
    have eD2 := sa d2 _ (kp_p upd_same p3.symm)
    have eA : ∀ a ∈ as, a ≠ p := fun a m => (ne_of_none upd_same (ha a m).1).symm
    have eB : ∀ a ∈ bs, a ≠ p := fun a m => (ne_of_none upd_same (hb a m).1).symm
    have up2 : ∀ {o o' : HO} (b : Addr) (u : HO), b ≠ p → Hb b = some u → upd (upd Hb tt o) p o' b = some u := fun b u n h => kp_p (kp_n h htt) n
    have upB : ∀ (b : Addr) (u : HO), b ≠ p → Ha b = some u → Hb b = some u := fun b u n h => sb _ _ (kp_p (kp_n h hq) n)
    have low : ∀ (b : Addr) (u : HO), b ≠ p → H b = some u → Ha b = some u := fun b u n h => sa _ _ (kp_p (kp_n (kp_p (kp_n (kp_p (kp_p (kp_n (kp_n (kp_p h n) hl0) hl) n) n) hd1) n) hd2) n)
    have eQ := sb q _ (kp_p upd_same p4.symm)
    have fl : H l = none := un_p (un_p hl)
    have f1 : H d1 = none := un_p (un_p (un_p (un_p (un_p hd1))))
    have f2 : H d2 = none := un_p (un_p (un_p (un_p (un_p (un_p (un_p hd2))))))
    have gone : ∀ b : Addr, Ha b = none → b ≠ p → H b = none := fun b h n => by
      cases e : H b with
      | none => rfl
      | some u => rw [low b u n e] at h; cases h
    have fA : ∀ a ∈ as, H a = none := fun a m => un_p (un_p (un_p (un_p (un_p (un_p (un_p (un_p (un_p (ha a m).1))))))))
    have fB : ∀ a ∈ bs, Ha a = none := fun a m => un_p (un_p (hb a m).1)
    have nT : ∀ b u, Hb b = some u → b ≠ tt := fun b u h => ne_of_none h htt
    have tt0 : Ha tt = none := by
      cases e : Ha tt with
      | none => rfl
      | some u => rw [upB tt u p5.symm e] at htt; cases htt
    refine k ⟨dx, l, d1, d2, [], q, as, tt, bs⟩ _ ⟨upd_same, ⟨_, up2 _ _ p1.symm (upB _ _ p1.symm eL), pr_rep (show isT _ .non .non from rfl) _⟩, up2 _ _ p2.symm (upB _ _ p2.symm eD1), up2 _ _ p3.symm (upB _ _ p3.symm eD2), .nil,
      up2 _ _ p4.symm eQ, paired4 la fun a m => up2 _ _ (eA a m) (upB _ _ (eA a m) (ha a m).2), kp_p upd_same p5.symm, paired4 lb fun a m => up2 _ _ (eB a m) (hb a m).2, ?_, ?_, List.Pairwise.nil, fun b hb => by cases hb⟩
      (fun b o h n => ?_) (fun b xs h => ?_) (fun b hb => ?_)
    · show (l :: q :: tt :: ([] ++ (as ++ bs))).Nodup
      have l1 : l ≠ q := ne_of_none eL hq
      have l2 : l ≠ tt := nT _ _ (upB _ _ p1.symm eL)
      have l3 : l ∉ as := fun m => by
        have z := (ha l m).1
        rw [kp_p (kp_n (kp_p (kp_n (kp_p (kp_p upd_same p1.symm) p1.symm) hd1) p1.symm) hd2) p1.symm] at z
        cases z
      have l4 : l ∉ bs := fun m => by rw [fB l m] at eL; cases eL
      have q1 : q ≠ tt := nT _ _ eQ
      have q2 : q ∉ as := fun m => by rw [(ha q m).2] at hq; cases hq
      have q3 : q ∉ bs := fun m => by
        have z := (hb q m).1
        rw [kp_p upd_same p4.symm] at z
        cases z
      have t1 : tt ∉ as := fun m => by rw [(ha tt m).2] at tt0; cases tt0
      have t2 : tt ∉ bs := fun m => by rw [(hb tt m).2] at htt; cases htt
      have ab : ∀ x ∈ as, ∀ y ∈ bs, x ≠ y := fun x hx y hy e => by
        subst e
        have z := fB x hy
        rw [(ha x hx).2] at z
        cases z
      simp only [List.nil_append, List.nodup_cons, List.mem_cons, List.mem_append, not_or]
      exact ⟨⟨l1, l2, l3, l4⟩, ⟨q1, q2, q3⟩, ⟨t1, t2⟩, List.nodup_append.mpr ⟨na, nb, ab⟩⟩
    · exact ne_of_none (kp_p upd_same p2.symm) hd2
    · have n : b ≠ p := by simpa using n
      exact up2 _ _ n (upB _ _ n (low _ _ n h))
    · have n : b ≠ p := ne_of h hp (by intro z; cases z)
      exact up2 _ _ n (upB _ _ n (low _ _ n h))
    · have hb' : b = p ∨ b = d1 ∨ b = d2 ∨ b = l ∨ b = q ∨ b = tt ∨ b ∈ as ∨ b ∈ bs := by simpa [HA.foot, HA.lists] using hb
      rcases hb' with e | e | e | e | e | e | e | e
      · left; simp [e]
      · right; rw [e]; exact f1
      · right; rw [e]; exact f2
      · right; rw [e]; exact fl
      · right; rw [e]; exact gone q hq p4.symm
      · right; rw [e]; exact gone tt tt0 p5.symm
      · right; exact fA b e
      · right; exact gone b (fB b e) (eB b e)
theorem ok_m_House_check_thing {n : Nat} {f : Addr} {fd : FuncData} (F : Fun K "check_thing" "House.check_thing" s_m_House_check_thing f fd) (T : TX K mg C) (D_box_name : DefOk P w K mg base n "box_name" ["thing"] (spBoxName) [[]])
    (M_check_box : MethOk P w K mg base C n "check_box" ["self", "name"] (spCheckBox C) [[]]) :
    FnOk P w K mg base CX0 (n + 1) f fd ["self", "thing"] (spCheckThing C) := by
  obtain ⟨f_box_name, fd_box_name, n_box_name, k_box_name, J_box_name, c_box_name⟩ := D_box_name
  obtain ⟨f_check_box, fd_check_box, m_check_box, G_check_box, b_check_box⟩ := M_check_box
  refine F.ok sc_m_House_check_thing (fun vs H Q E h => ?_) (fun cdv A outer s H vs Q E hr h => ?_)
  · obtain ⟨p, A', S, v, t, rfl, _⟩ := h
    rfl
  · obtain ⟨p, A', S, v, t, rfl, hh, tv, hn, k⟩ := h
    have hu := hu_of hr
    refine ⟨_, (pss_cons (ps_set (i := 2) sc_m_House_check_thing.nd rfl (Or.inl rfl) (pe_call J_box_name hr (by rfl) n_box_name k_box_name (c_box_name [] (by simp)) .nil pass0 (pa_cons (pv 1) pa_nil)))
      (pss_one (ps_if (pt_cmp (pc_notN (pv 2))) (pss_one (ps_expr (pe_meth (pv 0) T.cl m_check_box G_check_box hr (b_check_box [] (by simp)) .nil pass0 (pa_cons (pv 2) pa_nil)))) pss_nil))), ?_⟩
    refine ⟨_, rfl, v, t, rfl, tv, ?_⟩
    cases t with
    | non => exact ⟨_, rfl, _, rfl, iteF k⟩
    | num i => exact ⟨_, rfl, _, rfl, iteF k⟩
    | box n => exact ⟨_, rfl, _, rfl, iteT ⟨_, rfl, p, A'.dx, _, rfl, hh.ob, hf_none (by decide +kernel), _, rfl, p, A', S, n, rfl, hh, hn n rfl, k⟩⟩
theorem ok_m_House_put {n : Nat} {f : Addr} {fd : FuncData} (F : Fun K "put" "House.put" s_m_House_put f fd) (T : TX K mg C) (M_check_box : MethOk P w K mg base C n "check_box" ["self", "name"] (spCheckBox C) [[]])
    (M_check_thing : MethOk P w K mg base C n "check_thing" ["self", "thing"] (spCheckThing C) [[]])
    (M_check_field : MethOk P w K mg base C n "check_field" ["self", "name", "at"] (spCheckField C) [[]]) :
    FnOk P w K mg base CX0 (n + 1) f fd ["self", "name", "at", "thing"] (spPut C) := by
  obtain ⟨f_check_box, fd_check_box, m_check_box, G_check_box, b_check_box⟩ := M_check_box
  obtain ⟨f_check_thing, fd_check_thing, m_check_thing, G_check_thing, b_check_thing⟩ := M_check_thing
  obtain ⟨f_check_field, fd_check_field, m_check_field, G_check_field, b_check_field⟩ := M_check_field
  refine F.ok sc_m_House_put (fun vs H Q E h => ?_) (fun cdv A outer s H vs Q E hr h => ?_)
  · obtain ⟨p, A', S, i, b, at_, v, t, rfl, _⟩ := h
    rfl
  · obtain ⟨p, A', S, i, b, at_, v, t, rfl, hh, hi, hat, tv, hn, k⟩ := h
    have hu := hu_of hr
    refine ⟨_, (pss_cons (ps_expr (pe_meth (pv 0) T.cl m_check_box G_check_box hr (b_check_box [] (by simp)) .nil pass0 (pa_cons (pv 1) pa_nil)))
      (pss_cons (ps_expr (pe_meth (pv 0) T.cl m_check_thing G_check_thing hr (b_check_thing [] (by simp)) .nil pass0 (pa_cons (pv 3) pa_nil)))
      (pss_cons (ps_expr (pe_meth (pv 0) T.cl m_check_field G_check_field hr (b_check_field [] (by simp)) .nil pass0 (pa_cons (pv 1) (pa_cons (pv 2) pa_nil))))
      (pss_one (ps_asg (pv 3) (pg_sub (pe_dget hu (pe_fld (pv 0) rfl) (pv 1) (fun _ _ => rfl)) (pv 2) set_list)))))), ?_⟩
    obtain ⟨a, ws, ha, hw, ht, hv⟩ := hh.rowAt hi
    refine ⟨_, rfl, p, A'.dx, _, rfl, hh.ob, hf_none (by decide +kernel), _, rfl, p, A', S, b.name, rfl, hh, in_names hi, ?_⟩
    refine ⟨_, rfl, p, A'.dx, _, rfl, hh.ob, hf_none (by decide +kernel), _, rfl, p, A', S, v, t, rfl, hh, tv, hn, ?_⟩
    refine ⟨_, rfl, p, A'.dx, _, rfl, hh.ob, hf_none (by decide +kernel), _, rfl, _, rfl, p, A', S, i, b, at_, rfl, hh, hi, by omega, by omega, ?_⟩
    refine ⟨_, rfl, _, rfl, p, C, A'.dx, _, _, rfl, hh.ob, T.cl, T.n_fields, hf_fields, _, rfl, A'.fd, .ref a, rfl, ?_, _, rfl, a, ws, at_, at_, rfl, rfl, hw, ixN_nat (by rw [← pr_len ht]; exact hat), ?_⟩
    · rw [← hv]; exact DGet.k (k := Sum.inl b.name) hh.fd
    exact hh.outOne (by simp [HA.lists, List.mem_of_getElem? ha]) hw (hh.setField hi ha hw ht tv) k
theorem ok_m_House_hold {n : Nat} {f : Addr} {fd : FuncData} (F : Fun K "hold" "House.hold" s_m_House_hold f fd) (T : TX K mg C) (M_check_slot : MethOk P w K mg base C n "check_slot" ["self", "slot"] (spCheckSlot C) [[]])
    (M_check_thing : MethOk P w K mg base C n "check_thing" ["self", "thing"] (spCheckThing C) [[]]) :
    FnOk P w K mg base CX0 (n + 1) f fd ["self", "slot", "thing"] (spHold C) := by
  obtain ⟨f_check_slot, fd_check_slot, m_check_slot, G_check_slot, b_check_slot⟩ := M_check_slot
  obtain ⟨f_check_thing, fd_check_thing, m_check_thing, G_check_thing, b_check_thing⟩ := M_check_thing
  refine F.ok sc_m_House_hold (fun vs H Q E h => ?_) (fun cdv A outer s H vs Q E hr h => ?_)
  · obtain ⟨p, A', S, j, v, t, rfl, _⟩ := h
    rfl
  · obtain ⟨p, A', S, j, v, t, rfl, hh, hj, tv, hn, k⟩ := h
    have hu := hu_of hr
    refine ⟨_, (pss_cons (ps_expr (pe_meth (pv 0) T.cl m_check_slot G_check_slot hr (b_check_slot [] (by simp)) .nil pass0 (pa_cons (pv 1) pa_nil)))
      (pss_cons (ps_expr (pe_meth (pv 0) T.cl m_check_thing G_check_thing hr (b_check_thing [] (by simp)) .nil pass0 (pa_cons (pv 2) pa_nil)))
      (pss_one (ps_asg (pv 2) (pg_sub (pe_fld (pv 0) rfl) (pv 1) set_list))))), ?_⟩
    obtain ⟨ws, hw, ht⟩ := hh.sl
    refine ⟨_, rfl, p, A'.dx, _, rfl, hh.ob, hf_none (by decide +kernel), _, rfl, p, A', S, j, rfl, hh, by omega, by omega, ?_⟩
    refine ⟨_, rfl, p, A'.dx, _, rfl, hh.ob, hf_none (by decide +kernel), _, rfl, p, A', S, v, t, rfl, hh, tv, hn, ?_⟩
    refine ⟨_, rfl, _, rfl, p, C, A'.dx, _, _, rfl, hh.ob, T.cl, T.n_slots, hf_slots, _, rfl, A'.sl, ws, j, j, rfl, rfl, hw, ixN_nat (by rw [← pr_len ht]; exact hj), ?_⟩
    exact hh.outOne (by simp [HA.lists]) hw (hh.setSlot hw ht tv) k
end
end LW


/-! THE LAWS' defs -/
namespace LW
open PySem L2
section
variable {P : Program} {w : World} {K : PySem.W.Frag} {mg : Str → Option Value} {base : Heap} {C : Addr}
theorem ok_f_law_whole {n : Nat} {f : Addr} {fd : FuncData} (F : Fun K "_law_whole" "_law_whole" s_f_law_whole f fd) (T : TX K mg C)  :
    FnOk P w K mg base CX0 (n + 1) f fd ["found"] (spWhole) := by
  refine F.ok sc_f_law_whole (fun vs H Q E h => ?_) (fun cdv A outer s H vs Q E hr h => ?_)
  · obtain ⟨i, rfl, _⟩ := h
    rfl
  · obtain ⟨i, rfl, q⟩ := h
    have hu := hu_of hr
    refine ⟨_, (pss_one (ps_ret (pe_and (pe_callB call_isi (by rfl) T.g_isi PyProof.Rows.boot_isinstance (pa_cons (pv 0) (pa_cons (pe_bltn (v := .ty "int") (by rfl) T.g_int PyProof.Rows.boot_int rfl) pa_nil))) (pe_one (pe_not (pe_callB call_isi (by rfl) T.g_isi PyProof.Rows.boot_isinstance (pa_cons (pv 0) (pa_cons (pe_bltn (v := .ty "bool") (by rfl) T.g_bool PyProof.Rows.boot_bool rfl) pa_nil)))))))), ?_⟩
    refine ⟨_, rfl, _, "int", _, true, rfl, TyOf.int i, kit_same _ _, _, rfl, iteT ?_⟩
    exact ⟨_, rfl, _, "bool", _, false, rfl, TyOf.int i, kit_sub (by decide +kernel) (by decide +kernel) T.s_ib, _, rfl, q⟩
theorem ok_f_law_cell_at {n : Nat} {f : Addr} {fd : FuncData} (F : Fun K "_law_cell_at" "_law_cell_at" s_f_law_cell_at f fd) (T : TX K mg C)  :
    FnOk P w K mg base CX0 (n + 1) f fd ["script", "k"] (spCellD K) := by
  refine F.ok sc_f_law_cell_at (fun vs H Q E h => ?_) (fun cdv A outer s H vs Q E hr h => ?_)
  · obtain ⟨a, ns, k, rfl, _⟩ := h
    rfl
  · obtain ⟨a, ns, k, rfl, hS, h0, q⟩ := h
    have hu := hu_of hr
    refine ⟨_, (pss_cons (ps_if (pt_cmpR op_lt (pv 1) (pe_callB call_len_seq (by rfl) T.g_len PySem.boot_len (pa_cons (pv 0) pa_nil)) (nomark _)) (pss_one (ps_ret (pe_ix ix_list (pv 0) (pv 1) (fun _ _ => rfl)))) pss_nil)
      (pss_one (ps_ret pe_int))), ?_⟩
    obtain ⟨j, rfl⟩ : ∃ j : Nat, k = (j : Int) := ⟨k.toNat, by omega⟩
    refine ⟨_, rfl, _, rfl, a, _, rfl, .inl hS.sq, _, _, rfl, rfl, _, rfl, ?_⟩
    refine ite2 (fun hlt => ?_) (fun hlt => ?_)
    · have hlt : (j : Int) < ((ns.map V.int).length : Int) := of_decide_eq_true hlt
      have hlt : j < ns.length := by rw [List.length_map] at hlt; omega
      refine ⟨_, rfl, _, rfl, a, _, j, V.int ns[j], rfl, rfl, hS.sq, atI_nat (by rw [List.getElem?_map, List.getElem?_eq_getElem hlt]; rfl), ?_⟩
      have e : cellOf ns (j : Int) = ns[j] := by simp [cellOf, List.getD_eq_getElem?_getD, hlt]
      rw [← e]; exact q
    · have hlt : ¬ (j : Int) < ((ns.map V.int).length : Int) := fun z => hlt (decide_eq_true z)
      have e : cellOf ns (j : Int) = 0 := by
        rw [List.length_map] at hlt
        simp [cellOf, List.getD_eq_getElem?_getD, List.getElem?_eq_none (show ns.length ≤ j by omega)]
      rw [e] at q
      exact q
theorem ok_f_law_draw {n : Nat} {f : Addr} {fd : FuncData} (F : Fun K "_law_draw" "_law_draw" s_f_law_draw f fd) (T : TX K mg C) (D_law_cell_at : DefOk P w K mg base n "_law_cell_at" ["script", "k"] (spCellD K) [[]]) :
    FnOk P w K mg base CX0 (n + 1) f fd ["script", "k"] (spDrawD K) := by
  obtain ⟨f_law_cell_at, fd_law_cell_at, n_law_cell_at, k_law_cell_at, J_law_cell_at, c_law_cell_at⟩ := D_law_cell_at
  refine F.ok sc_f_law_draw (fun vs H Q E h => ?_) (fun cdv A outer s H vs Q E hr h => ?_)
  · obtain ⟨a, ns, k, rfl, _⟩ := h
    rfl
  · obtain ⟨a, ns, k, rfl, hS, q⟩ := h
    have hu := hu_of hr
    refine ⟨_, (pss_one (ps_ret (pe_op op_mod (pe_op op_mul (pe_op op_add (pe_call J_law_cell_at hr (by rfl) n_law_cell_at k_law_cell_at (c_law_cell_at [] (by simp)) .nil pass0 (pa_cons (pv 0) (pa_cons (pe_op op_mod (pv 1) pe_int) pa_nil))) (pe_op op_mul pe_int (pv 1))) pe_int) pe_int))), ?_⟩
    refine ⟨_, rfl, _, rfl, _, _, rfl, rfl, (by show (0 : Int) < 61; decide), a, ns, _, rfl, hS, Int.emod_nonneg _ (by decide), ?_⟩
    refine ⟨_, rfl, _, _, rfl, rfl, .inl ⟨by decide, by decide⟩, _, _, rfl, rfl, _, _, rfl, rfl, .inr ⟨by decide, by decide⟩, _, _, rfl, rfl, (by show (0 : Int) < 2147483647; decide), q⟩
theorem ok_f_law_number {n : Nat} {f : Addr} {fd : FuncData} (F : Fun K "_law_number" "_law_number" s_f_law_number f fd) (T : TX K mg C) (D_law_draw : DefOk P w K mg base n "_law_draw" ["script", "k"] (spDrawD K) [[]])
    (D_law_cell_at : DefOk P w K mg base n "_law_cell_at" ["script", "k"] (spCellD K) [[]]) :
    FnOk P w K mg base CX0 (n + 1) f fd ["script", "k"] (spNumber K) := by
  obtain ⟨f_law_draw, fd_law_draw, n_law_draw, k_law_draw, J_law_draw, c_law_draw⟩ := D_law_draw
  obtain ⟨f_law_cell_at, fd_law_cell_at, n_law_cell_at, k_law_cell_at, J_law_cell_at, c_law_cell_at⟩ := D_law_cell_at
  refine F.ok sc_f_law_number (fun vs H Q E h => ?_) (fun cdv A outer s H vs Q E hr h => ?_)
  · obtain ⟨a, ns, k, rfl, _⟩ := h
    rfl
  · obtain ⟨a, ns, k, rfl, hS, q⟩ := h
    have hu := hu_of hr
    refine ⟨_, (pss_cons (ps_set (i := 2) sc_f_law_number.nd rfl (Or.inl rfl) (pe_call J_law_draw hr (by rfl) n_law_draw k_law_draw (c_law_draw [] (by simp)) .nil pass0 (pa_cons (pv 0) (pa_cons (pv 1) pa_nil))))
      (pss_cons (ps_if (pt_cmpR op_eq (pe_op op_mod (pv 2) pe_int) pe_int (nomark _)) (pss_one (ps_ret (pe_op op_mod (pe_call J_law_cell_at hr (by rfl) n_law_cell_at k_law_cell_at (c_law_cell_at [] (by simp)) .nil pass0 (pa_cons (pv 0) (pa_cons (pe_op op_mod (pv 1) pe_int) pa_nil))) (pe_op op_pow pe_int pe_int)))) pss_nil)
      (pss_cons (ps_if (pt_cmpR op_eq (pe_op op_mod (pv 2) pe_int) pe_int (nomark _)) (pss_one (ps_ret (pe_op op_sub pe_int (pe_op op_mod (pe_call J_law_cell_at hr (by rfl) n_law_cell_at k_law_cell_at (c_law_cell_at [] (by simp)) .nil pass0 (pa_cons (pv 0) (pa_cons (pe_op op_mod (pv 1) pe_int) pa_nil))) (pe_op op_pow pe_int pe_int))))) pss_nil)
      (pss_one (ps_ret (pe_op op_sub (pe_op op_mod (pe_op op_fdiv (pv 2) pe_int) pe_int) pe_int)))))), ?_⟩
    refine ⟨_, rfl, _, rfl, a, ns, k, rfl, hS, ?_⟩
    refine ⟨_, rfl, _, _, rfl, rfl, (by show (0 : Int) < 3; decide), rfl, _, rfl, ite2 (fun _ => ?_) (fun _ => ?_)⟩
    · refine ⟨_, rfl, _, rfl, _, _, rfl, rfl, (by show (0 : Int) < 61; decide), a, ns, _, rfl, hS, Int.emod_nonneg _ (by decide), _, _, rfl, rfl, ⟨by decide, by decide, by decide⟩, _, _, rfl, rfl, p40, ?_⟩
      rw [show Int.toNat 40 = 40 from rfl]
      have h1 := Int.emod_nonneg (cellOf ns (k % 61)) (show (10 : Int) ^ 40 ≠ 0 by decide)
      have h2 := Int.emod_lt_of_pos (cellOf ns (k % 61)) p40
      exact q _ (by have := p40; omega) h2
    · refine ⟨_, rfl, _, _, rfl, rfl, (by show (0 : Int) < 3; decide), rfl, _, rfl, ite2 (fun _ => ?_) (fun _ => ?_)⟩
      · refine ⟨_, rfl, _, rfl, _, _, rfl, rfl, (by show (0 : Int) < 61; decide), a, ns, _, rfl, hS, Int.emod_nonneg _ (by decide), _, _, rfl, rfl, ⟨by decide, by decide, by decide⟩, _, _, rfl, rfl, p40, _, _, rfl, rfl, ?_⟩
        rw [show Int.toNat 40 = 40 from rfl]
        have h1 := Int.emod_nonneg (cellOf ns (k % 61)) (show (10 : Int) ^ 40 ≠ 0 by decide)
        have h2 := Int.emod_lt_of_pos (cellOf ns (k % 61)) p40
        exact q _ (by have := p40; omega) (by have := p40; omega)
      · refine ⟨_, rfl, _, _, rfl, rfl, ⟨by decide, by decide⟩, _, _, rfl, rfl, (by show (0 : Int) < 9; decide), _, _, rfl, rfl, q _ ?_ ?_⟩
        · have : (4 : Int) < 10 ^ 40 := by decide
          omega
        · have : (9 : Int) < 10 ^ 40 := by decide
          omega
theorem ok_f_law_thing {n : Nat} {f : Addr} {fd : FuncData} (F : Fun K "_law_thing" "_law_thing" s_f_law_thing f fd) (T : TX K mg C) (D_law_draw : DefOk P w K mg base n "_law_draw" ["script", "k"] (spDrawD K) [[]])
    (D_law_number : DefOk P w K mg base n "_law_number" ["script", "k"] (spNumber K) [[]]) :
    FnOk P w K mg base CX0 (n + 1) f fd ["script", "k", "many"] (spThing K) := by
  obtain ⟨f_law_draw, fd_law_draw, n_law_draw, k_law_draw, J_law_draw, c_law_draw⟩ := D_law_draw
  obtain ⟨f_law_number, fd_law_number, n_law_number, k_law_number, J_law_number, c_law_number⟩ := D_law_number
  refine F.ok sc_f_law_thing (fun vs H Q E h => ?_) (fun cdv A outer s H vs Q E hr h => ?_)
  · obtain ⟨a, ns, k, many, rfl, _⟩ := h
    rfl
  · obtain ⟨a, ns, k, many, rfl, hS, hm, q⟩ := h
    have hu := hu_of hr
    refine ⟨_, (pss_cons (ps_set (i := 3) sc_f_law_thing.nd rfl (Or.inl rfl) (pe_call J_law_draw hr (by rfl) n_law_draw k_law_draw (c_law_draw [] (by simp)) .nil pass0 (pa_cons (pv 0) (pa_cons (pv 1) pa_nil))))
      (pss_cons (ps_if (pt_cmpR op_eq (pe_op op_mod (pv 3) pe_int) pe_int (nomark _)) (pss_one (ps_ret pe_non)) pss_nil)
      (pss_cons (ps_if (pt_cmpR op_eq (pe_op op_mod (pv 3) pe_int) pe_int (nomark _)) (pss_one (ps_ret (pe_call J_law_number hr (by rfl) n_law_number k_law_number (c_law_number [] (by simp)) .nil pass0 (pa_cons (pv 0) (pa_cons (pe_op op_add (pv 1) pe_int) pa_nil))))) pss_nil)
      (pss_one (ps_ret (pe_tup (pa_cons pe_str (pa_cons (pe_op op_add pe_int (pe_op op_mod (pe_op op_fdiv (pv 3) pe_int) (pv 2))) pa_nil)))))))), ?_⟩
    refine ⟨_, rfl, _, rfl, a, ns, k, rfl, hS, ?_⟩
    refine ⟨_, rfl, _, _, rfl, rfl, (by show (0 : Int) < 5; decide), rfl, _, rfl, ite2 (fun _ => ?_) (fun _ => ?_)⟩
    · exact q .non .non H (Same.refl H) rfl trivial
    · refine ⟨_, rfl, _, _, rfl, rfl, (by show (0 : Int) < 5; decide), rfl, _, rfl, ite2 (fun _ => ?_) (fun _ => ?_)⟩
      · refine ⟨_, rfl, _, rfl, _, _, rfl, rfl, a, ns, k + 1, rfl, hS, fun i h1 h2 => ?_⟩
        exact q (.num i) (.int i) H (Same.refl H) rfl ⟨h1, h2⟩
      · refine ⟨_, rfl, _, _, rfl, rfl, ⟨by decide, by decide⟩, _, rfl, _, _, rfl, rfl, (by show (0 : Int) < many; omega), _, _, rfl, rfl, by show 2 ≤ sizeLine; decide, fun l hl => ?_⟩
        have h1 := Int.emod_nonneg (drw ns k / 5) (show many ≠ 0 by omega)
        have h2 := Int.emod_lt_of_pos (drw ns k / 5) (show (0 : Int) < many by omega)
        exact q (.box (1 + drw ns k / 5 % many)) (.ref l) _ (Same.new hl) ⟨l, rfl, upd_same⟩ ⟨by omega, by omega⟩
theorem bs_f_law_graph_0 : BlkScope (defScope s_f_law_graph) ["script", "many", "kinds", "rows", "name", "cell", "size"] (compScope ((asgVal (stAt (forBody (stAt (defBody s_f_law_graph) 2)) 3)))) "at" ["script", "many", "name"] [0, 1, 4] :=
  ⟨by rfl, by decide +kernel, by decide +kernel, by decide +kernel, by rfl, by decide +kernel, by rfl, by decide +kernel⟩
theorem ok_f_law_graph {n : Nat} {f : Addr} {fd : FuncData} (F : Fun K "_law_graph" "_law_graph" s_f_law_graph f fd) (T : TX K mg C) (D_law_draw : DefOk P w K mg base n "_law_draw" ["script", "k"] (spDrawD K) [[]])
    (D_law_thing : DefOk P w K mg base n "_law_thing" ["script", "k", "many"] (spThing K) [[]]) :
    FnOk P w K mg base CX0 (n + 1) f fd ["script", "many"] (spGraph K) := by
  obtain ⟨f_law_draw, fd_law_draw, n_law_draw, k_law_draw, J_law_draw, c_law_draw⟩ := D_law_draw
  obtain ⟨f_law_thing, fd_law_thing, n_law_thing, k_law_thing, J_law_thing, c_law_thing⟩ := D_law_thing
  refine F.ok sc_f_law_graph (fun vs H Q E h => ?_) (fun cdv A outer s H vs Q E hr h => ?_)
  · obtain ⟨a, ns, many, rfl, _⟩ := h
    rfl
  · obtain ⟨a, ns, many, rfl, hS, hm1, hm2, q⟩ := h
    have hu := hu_of hr
    refine ⟨_, (pss_cons (ps_set (i := 2) sc_f_law_graph.nd rfl (Or.inl rfl) pe_dnewK)
      (pss_cons (ps_set (i := 3) sc_f_law_graph.nd rfl (Or.inl rfl) pe_dnewK)
      (pss_cons (ps_for PassesOwn.never rfl (pi_range2 (by rfl) T.g_range (pa_cons pe_int (pa_cons (pe_op op_add (pv 1) pe_int) pa_nil))) (pg_name (i := 4) sc_f_law_graph.nd rfl (Or.inr rfl))
      (pss_cons (ps_set (i := 5) sc_f_law_graph.nd rfl (Or.inl rfl) (pe_call J_law_draw hr (by rfl) n_law_draw k_law_draw (c_law_draw [] (by simp)) .nil pass0 (pa_cons (pv 0) (pa_cons (pe_op op_mul pe_int (pv 4)) pa_nil))))
      (pss_cons (ps_dput hu (pv 2) (pv 4) (pe_ix ix_list (pe_lst (pa_cons pe_str (pa_cons pe_str (pa_cons pe_str (pa_cons pe_str pa_nil))))) (pe_op op_mod (pv 5) pe_int) (fun _ _ => rfl)) rfl)
      (pss_cons (ps_set (i := 6) sc_f_law_graph.nd rfl (Or.inl rfl) (pe_ix ix_list (pe_lst (pa_cons (pe_op op_mod (pe_op op_fdiv (pv 5) pe_int) pe_int) (pa_cons pe_int (pa_cons pe_int (pa_cons (pe_op op_mod (pe_op op_fdiv (pv 5) pe_int) pe_int) pa_nil))))) (pe_op op_mod (pv 5) pe_int) (fun _ _ => rfl)))
      (pss_one (ps_dput hu (pv 3) (pv 4) (pe_comp bs_f_law_graph_0 rfl (pi_range1 (by rfl) T.g_range (pa_cons (pv 6) pa_nil)) (fun _ _ _ _ => pifs_nil) (fun _ _ _ _ => (pe_call J_law_thing hr (by rfl) n_law_thing k_law_thing (c_law_thing [] (by simp)) .nil pass0 (pa_cons (pv 1) (pa_cons (pe_op op_add (pe_op op_add (pe_op op_mul pe_int (pv 3)) pe_int) (pv 0)) (pa_cons (pv 2) pa_nil)))))) rfl))))))
      (pss_one (ps_ret (pe_tup (pa_cons (pv 2) (pa_cons (pv 3) pa_nil)))))))), ?_⟩
    refine fun ak hak => ?_
    refine fun ar har => ?_
    have hra : ar ≠ ak := fun e => by rw [e, upd_same] at har; cases har
    have har0 : H ar = none := (Same.new hak).free har
    refine ⟨_, rfl, _, _, rfl, rfl, 1, many + 1, rfl, ⟨by decide, by decide, by omega, by omega⟩, ?_⟩
    have em : (many + 1 - 1).toNat = many.toNat := by omega
    rw [em]
    refine for_range (lo := 1) (n := many.toNat) (fun i σ H' => ∃ v_name v_cell v_size, σ = [some (.ref a), some (.int many), some (.ref ak), some (.ref ar), v_name, v_cell, v_size] ∧ Same H H' ∧
      ∃ bs, RecNew H H' ak ar bs ∧ bs.map (·.name) = intsUp 1 i ∧ ∀ b ∈ bs, BOk many b) ?_ ?_ ?_
    · refine ⟨_, _, _, rfl, (Same.new hak).trans (Same.new har), [], ⟨[], kp_n upd_same har, upd_same, .nil, by simp [hra.symm], ?_⟩, rfl, by simp⟩
      intro b hb
      have hb : b = ak ∨ b = ar := by simpa using hb
      rcases hb with rfl | rfl
      · exact hak
      · exact har0
    · rintro i σ H1 hi ⟨v1, v2, v3, rfl, s1, bs, hR, hnm, hok⟩
      have hS1 := hS.keep (Frz.of_same s1)
      refine ⟨_, rfl, _, rfl, _, _, rfl, rfl, .inl ⟨by decide, by decide⟩, a, ns, _, rfl, hS1, ?_⟩
      generalize drw ns (10 * (1 + (i : Int))) = c
      obtain ⟨kd, sz, hk1, hk2, hkd, hz0, hz8, hsz⟩ := menu4 c
      have hR0 := hR
      obtain ⟨fl, e1, e2, pf, nd, fr⟩ := hR
      have hl := pr_len pf
      have hbl : bs.length = i := by have := congrArg List.length hnm; rw [intsUp_length] at this; simpa using this
      have hout : (1 + (i : Int)) ∉ bs.map (·.name) := by rw [hnm, intsUp_mem]; omega
      -- kinds[name] = [..][cell % 4]
      refine ⟨by show 4 ≤ sizeLine; decide, fun l1 hl1 => ⟨_, rfl, _, _, rfl, rfl, (by show (0 : Int) < 4; decide), l1, _, _, _, rfl, rfl, SqL.of upd_same, hk1, ?_⟩⟩
      refine ⟨_, rfl, _, rfl, ak, _, rfl, DPut.k (k := Sum.inl (1 + (i : Int))) (kp_n e1 hl1) (by simp only [kindsD, List.length_map]; exact small1000 (by omega)), ?_⟩
      have s2 : Same H1 (upd H1 l1 (.lst [V.str "plain", V.str "weak", V.str "pair", V.str "plain"])) := Same.new hl1
      generalize eH2 : upd (upd H1 l1 (.lst [V.str "plain", V.str "weak", V.str "pair", V.str "plain"])) ak (.dK (putK (kindsD bs) (Sum.inl (1 + (i : Int))) (.str kd))) = H2
      have sH2 : Same H H2 := fun b o e => by
        rw [← eH2, upd_ne (ne_of_none e hak)]; exact s2 _ _ (s1 _ _ e)
      -- size
      refine ⟨_, rfl, _, _, rfl, rfl, ⟨by decide, by decide⟩, _, _, rfl, rfl, (by show (0 : Int) < 9; decide), _, rfl, _, _, rfl, rfl, ⟨by decide, by decide⟩, _, _, rfl, rfl, (by show (0 : Int) < 3; decide), by show 4 ≤ sizeLine; decide, fun l2 hl2 => ?_⟩
      refine ⟨_, rfl, _, _, rfl, rfl, (by show (0 : Int) < 4; decide), l2, _, _, _, rfl, rfl, SqL.of upd_same, hk2, ?_⟩
      have s3 : Same H2 (upd H2 l2 (.lst [V.int (c / 4 % 9), V.int 1, V.int 2, V.int (c / 4 % 3)])) := Same.new hl2
      generalize upd H2 l2 (.lst [V.int (c / 4 % 9), V.int 1, V.int 2, V.int (c / 4 % 3)]) = H3 at s3 ⊢
      -- rows[name] = [..]
      refine ⟨_, rfl, sz, rfl, by omega, by omega, ?_⟩
      refine comp_range (lo := 0) (n := sz.toNat) (fun j ys H' => Same H3 H' ∧ ∃ ts, Ths H' ts ys ∧ ts.length = j ∧ ∀ t ∈ ts, TOk many t) ⟨Same.refl _, [], .nil, rfl, by simp⟩ ?_ (len_small (by omega)) ?_ ?_
      · rintro j ys H' ⟨_, ts, ht, hj, _⟩
        rw [← pr_len ht, hj]; exact Nat.le_refl _
      · rintro j ys H' hj ⟨s4, ts, ht, htl, hts⟩
        dsimp only [tNoIf]
        have hS4 := (hS.keep (Frz.of_same sH2)).keep (Frz.of_same (s3.trans s4))
        refine iteT ⟨_, rfl, _, rfl, _, _, rfl, rfl, .inl ⟨by decide, by decide⟩, _, _, rfl, rfl, _, rfl, _, _, rfl, rfl, _, rfl, a, ns, _, many, rfl, hS4, hm1, fun t v H5 s5 tv ok => ?_⟩
        refine ⟨s4.trans s5, ts ++ [t], pr_app (Ths.keep (Tups.of_same s5) ht) (.cons tv .nil), by simp [htl], fun x hx => ?_⟩
        rcases List.mem_append.mp hx with z | z
        · exact hts x z
        · rw [List.mem_singleton.mp z]; exact ok
      · rintro ys H4 ⟨s4, ts, ht, htl, hts⟩ r hr4
        have r2 : H2 ar = some (.dK (fieldsD bs fl)) := by rw [← eH2, upd_ne hra]; exact s2 _ _ e2
        have s34 : Same H2 (upd H4 r (.lst ys)) := (s3.trans s4).trans (Same.new hr4)
        refine ⟨_, rfl, _, rfl, ar, _, rfl, DPut.k (k := Sum.inl (1 + (i : Int))) (s34 _ _ r2) (by rw [fieldsD, List.length_map, List.length_zip]; exact small1000 (by omega)), ?_⟩
        refine ⟨_, _, _, rfl, fun b o e => ?_, bs ++ [⟨1 + (i : Int), kd, ts⟩], ?_, ?_, ?_⟩
        · rw [upd_ne (ne_of_none e har0)]; exact s34 _ _ (sH2 _ _ e)
        · refine hR0.snoc (b := ⟨1 + (i : Int), kd, ts⟩) (a := r) s2 hout eH2.symm s34 ⟨ys, upd_same, Ths.keep (Tups.new hr4) ht⟩ ((s3.trans s4).free hr4) sH2 fun fl' h => ?_
          rw [HO.dK.inj (Option.some.inj (h.symm.trans (s34 _ _ r2)))]
        · rw [List.map_append, hnm, intsUp_snoc]; rfl
        · intro b hb
          rcases List.mem_append.mp hb with z | z
          · exact hok b z
          · rw [List.mem_singleton.mp z]
            exact ⟨hkd, by show sizeOf kd (ts.length : Int) = (ts.length : Int); rw [show (ts.length : Int) = sz by omega]; exact hsz, by show ts.length ≤ 8; omega, hts⟩
    · rintro σ H1 ⟨v1, v2, v3, rfl, s1, bs, hR, hnm, hok⟩
      refine ⟨_, rfl, _, rfl, by show 2 ≤ sizeLine; decide, fun m hm => ?_⟩
      exact q m ak ar bs _ (s1.trans (Same.new hm)) upd_same (hR.same (Same.new hm)) hnm hok
theorem ok_f_law_house {n : Nat} {f : Addr} {fd : FuncData} {t_mk1 t_mk2 t_sl : Tok} (F : Fun K "_law_house" "_law_house" s_f_law_house f fd) (T : TX K mg C) (D_House : MakeOk P w K mg base C n ["self", "room", "slots"] (spInit C) [[], [.int 4 t_sl]])
    (M_make : MethOk P w K mg base C n "make" ["self", "kind", "size", "slot"] (spMake0 C) [[], [.int 0 t_mk1, .int 0 t_mk2], [.int 0 t_mk2]])
    (M_put : MethOk P w K mg base C n "put" ["self", "name", "at", "thing"] (spPut C) [[]])
    (M_hold : MethOk P w K mg base C n "hold" ["self", "slot", "thing"] (spHold C) [[]]) :
    FnOk P w K mg base CX0 (n + 1) f fd ["kinds", "rows", "slots", "extra"] (spHouse C) := by
  obtain ⟨fI_House, fdI_House, jI_House, hjI_House, MK_House, GI_House, bI_House⟩ := D_House
  obtain ⟨f_make, fd_make, m_make, G_make, b_make⟩ := M_make
  obtain ⟨f_put, fd_put, m_put, G_put, b_put⟩ := M_put
  obtain ⟨f_hold, fd_hold, m_hold, G_hold, b_hold⟩ := M_hold
  refine F.ok sc_f_law_house (fun vs H Q E h => ?_) (fun cdv A outer s H vs Q E hr h => ?_)
  · obtain ⟨ak, ar, as, fl, bs, ts, extra, rfl, _⟩ := h
    rfl
  · obtain ⟨ak, ar, as, fl, bs, ts, extra, rfl, hk, hr', pf, hs, hnm, h64, hok, ht1, ht2, hts, hx, q⟩ := h
    have hu := hu_of hr
    refine ⟨_, (pss_cons (ps_set (i := 4) sc_f_law_house.nd rfl (Or.inl rfl) (pe_make MK_House GI_House (hr.mono hjI_House) (by rfl) T.g_house (bI_House [] (by simp)) .nil pass0 (pa_cons (pe_op op_add (pe_callB call_lenD (by rfl) T.g_len PySem.boot_len (pa_cons (pv 0) pa_nil)) (pv 3)) (pa_cons (pe_callB call_len_seq (by rfl) T.g_len PySem.boot_len (pa_cons (pv 2) pa_nil)) pa_nil))))
      (pss_cons (ps_for PassesOwn.never rfl (pi_list (pe_callB (call_sortedD hr.hd) (by rfl) T.g_sorted PyProof.Rows.boot_sorted (pa_cons (pv 0) pa_nil))) (pg_name (i := 5) sc_f_law_house.nd rfl (Or.inl rfl))
      (pss_one (ps_expr (pe_meth (pv 4) T.cl m_make G_make hr (b_make [] (by simp)) .nil pass0 (pa_cons (pe_dget hu (pv 0) (pv 5) (fun _ _ => rfl)) (pa_cons (pe_callB call_len_seq (by rfl) T.g_len PySem.boot_len (pa_cons (pe_dget hu (pv 1) (pv 5) (fun _ _ => rfl)) pa_nil)) (pa_cons pe_int pa_nil)))))))
      (pss_cons (ps_for PassesOwn.never rfl (pi_list (pe_callB (call_sortedD hr.hd) (by rfl) T.g_sorted PyProof.Rows.boot_sorted (pa_cons (pv 1) pa_nil))) (pg_name (i := 5) sc_f_law_house.nd rfl (Or.inl rfl))
      (pss_one (ps_for PassesOwn.never rfl (pi_enum (by rfl) T.g_enumerate (pa_cons (pe_dget hu (pv 1) (pv 5) (fun _ _ => rfl)) pa_nil)) (pg_pair rfl sc_f_law_house.nd (i := 6) (j := 7) rfl rfl (Or.inl rfl) (Or.inl rfl))
      (pss_one (ps_expr (pe_meth (pv 4) T.cl m_put G_put hr (b_put [] (by simp)) .nil pass0 (pa_cons (pv 5) (pa_cons (pv 6) (pa_cons (pv 7) pa_nil)))))))))
      (pss_cons (ps_for PassesOwn.never rfl (pi_enum (by rfl) T.g_enumerate (pa_cons (pv 2) pa_nil)) (pg_pair rfl sc_f_law_house.nd (i := 8) (j := 7) rfl rfl (Or.inl rfl) (Or.inl rfl))
      (pss_one (ps_expr (pe_meth (pv 4) T.cl m_hold G_hold hr (b_hold [] (by simp)) .nil pass0 (pa_cons (pv 8) (pa_cons (pv 7) pa_nil))))))
      (pss_one (ps_ret (pv 4))))))), ?_⟩
    obtain ⟨ws, hw, htw⟩ := hs
    have hkl : (kindsD bs).length = bs.length := by simp [kindsD]
    have hnd : (bs.map (·.name)).Nodup := by rw [hnm]; exact (intsUp_asc _ _).imp fun z => Int.ne_of_lt z
    have hfl := pr_len pf
    -- the house
    refine ⟨_, rfl, ak, _, rfl, hk, _, rfl, _, _, rfl, rfl, _, rfl, as, _, rfl, .inl (SqL.of hw), fun x dx nx ndx nex => ?_⟩
    rw [hkl, ← pr_len htw]
    refine ⟨x, dx, _, _, rfl, upd_same, by omega, by omega, fun A1 H1 hh1 fr1 tu1 gr1 => ⟨rfl, ?_⟩⟩
    have s1 : Same H H1 := fun b o e => fr1 b o (kp_p (kp_n e ndx) (ne_of_none e nx)) (by simpa using ne_of_none e nx)
    have f1 : ∀ b ∈ A1.foot x, H b = none := fun b hb => by
      rcases gr1 b hb with z | z
      · rw [List.mem_singleton.mp z]; exact nx
      · exact un_p (un_p z)
    have rk : ∀ {H' : Hp}, Same H H' → H' ak = some (.dK (kindsD bs)) := fun s => s _ _ hk
    have rr : ∀ {H' : Hp}, Same H H' → H' ar = some (.dK (fieldsD bs fl)) := fun s => s _ _ hr'
    -- for name in sorted(kinds)
    refine ⟨_, rfl, ak, _, intsUp 1 bs.length, rfl, rk s1, by rw [kindsD_keys, hnm], by rw [intsUp_length]; exact h64, fun l ns' hl hp hs => ?_⟩
    rw [perm_asc hp hs (intsUp_asc _ _)]
    refine ⟨l, rfl, ⟨_, SqL.of upd_same⟩, ?_⟩
    have s2 := s1.trans (Same.new (o := .lst ((intsUp 1 bs.length).map V.int)) hl)
    have hl0 : l ∉ A1.foot x := hh1.out hl
    have hh2 := hh1.new (o := .lst ((intsUp 1 bs.length).map V.int)) hl
    refine for_list (K := K) (xs := (intsUp 1 bs.length).map V.int) (fun i σ H' => ∃ v_name v_at v_thing v_slot A S, σ = [some (.ref ak), some (.ref ar), some (.ref as), some (.int extra), some (.ref x), v_name, v_at, v_thing, v_slot] ∧ Same H H' ∧ (∀ b ∈ HA.foot A x, H b = none) ∧
      H' l = some (.lst ((intsUp 1 bs.length).map V.int)) ∧ l ∉ HA.foot A x ∧ HouseAt C H' x A ⟨bs.length + extra, S, i, (bs.take i).map Box.blank, e4, e4⟩ ∧ S.length = ts.length) ?_ ?_ ?_ ?_
    · exact ⟨_, _, _, _, A1, List.replicate (ts.length : Int).toNat .non, rfl, s2, f1, upd_same, hl0, hh2, by simp⟩
    · rintro i σ H' _ ⟨_, _, _, _, A, S, rfl, s, f, h, n, hh, hS⟩
      exact SqL.of h
    · rintro i y σ H' hy ⟨v1, v2, v3, v4, A, S, rfl, s, f, h, n, hh, hS⟩
      obtain ⟨hi, rfl⟩ := intsUp_at hy
      obtain ⟨b, hb⟩ : ∃ b, bs[i]? = some b := ⟨bs[i], List.getElem?_eq_getElem hi⟩
      obtain ⟨hbn, _⟩ := name_at hnm hb
      have hbo := hok b (List.mem_of_getElem? hb)
      obtain ⟨a, ha, vs, hv, htv⟩ := pr_get pf hb
      rw [← hbn]
      have hlen := pr_len htv
      have hle := hbo.le
      refine ⟨_, rfl, x, A.dx, _, rfl, hh.ob, hf_none (by decide +kernel), _, rfl, _, rfl, ak, .str b.kind, rfl, ?_, ?_⟩
      · rw [← kindAt hnd hb]; exact DGet.k (k := Sum.inl b.name) (rk s)
      refine ⟨_, rfl, _, rfl, ar, .ref a, rfl, ?_, a, vs, rfl, .inl (SqL.of (s _ _ hv)), ?_⟩
      · rw [← rowAt hfl hnd hb ha]; exact DGet.k (k := Sum.inl b.name) (rr s)
      rw [← hlen]
      have hsz := hbo.sz
      refine ⟨x, A, _, b.kind, b.row.length, 0, rfl, hh, by rw [hsz]; omega, by rw [hsz]; omega, by show ((bs.take i).map Box.blank).length ≤ 1000; rw [List.length_map, List.length_take]; omega, by show (((bs.take i).map Box.blank).length : Int) < bs.length + extra; rw [List.length_map, List.length_take]; omega, by show 0 < S.length; omega, fun A2 H2 hh2 fr2 tu2 gr2 => ?_⟩
      obtain ⟨g1, g2, g3, g4⟩ := stepHouse (C := C) (S := HS.empty 0 0) s f h n fr2 gr2
      refine ⟨_, _, _, _, A2, S.set 0 (.box ((i : Int) + 1)), rfl, g1, g2, g3, g4, ?_, ?_⟩
      · rw [hsz] at hh2
        have e : (HS.made ⟨bs.length + extra, S, i, (bs.take i).map Box.blank, e4, e4⟩ b.kind (b.row.length : Int).toNat 0) = ⟨bs.length + extra, S.set 0 (.box ((i : Int) + 1)), ((i + 1 : Nat) : Int), (bs.take (i + 1)).map Box.blank, e4, e4⟩ := by
          rw [blank_take bs i b hb]
          unfold HS.made HS.built
          simp only [Int.toNat_natCast, HS.mk.injEq, true_and]
          refine ⟨by omega, ?_, trivial⟩
          congr 1
          unfold Box.blank
          rw [hbn]
          congr 1
          congr 1
          omega
        rw [e] at hh2
        exact hh2
      · simp [hS]
    · rintro σ H3 ⟨v1, v2, v3, v4, A, S, rfl, s, f, h, n, hh, hS⟩
      have en : (((intsUp 1 bs.length).map V.int).length) = bs.length := by rw [List.length_map, intsUp_length]
      rw [en, List.take_length] at hh
      -- for name in sorted(rows)
      refine ⟨_, rfl, ar, _, intsUp 1 bs.length, rfl, rr s, by rw [fieldsD_keys hfl, hnm], by rw [intsUp_length]; exact h64, fun l2 ns2 hl2 hp2 hs2 => ?_⟩
      rw [perm_asc hp2 hs2 (intsUp_asc _ _)]
      refine ⟨l2, rfl, ⟨_, SqL.of upd_same⟩, ?_⟩
      have s4 := s.trans (Same.new (o := .lst ((intsUp 1 bs.length).map V.int)) hl2)
      have hl3 : l2 ∉ A.foot x := hh.out hl2
      have hh4 := hh.new (o := .lst ((intsUp 1 bs.length).map V.int)) hl2
      have h4 : (upd H3 l2 (.lst ((intsUp 1 bs.length).map V.int))) l2 = some (.lst ((intsUp 1 bs.length).map V.int)) := upd_same
      generalize upd H3 l2 (.lst ((intsUp 1 bs.length).map V.int)) = H4 at s4 hh4 h4 ⊢
      refine for_list (K := K) (xs := (intsUp 1 bs.length).map V.int) (fun i σ H' => ∃ v_name v_at v_thing v_slot A S, σ = [some (.ref ak), some (.ref ar), some (.ref as), some (.int extra), some (.ref x), v_name, v_at, v_thing, v_slot] ∧ Same H H' ∧ (∀ b ∈ HA.foot A x, H b = none) ∧
        H' l2 = some (.lst ((intsUp 1 bs.length).map V.int)) ∧ l2 ∉ HA.foot A x ∧ HouseAt C H' x A ⟨bs.length + extra, S, bs.length, rowsTo bs i 0, e4, e4⟩ ∧ S.length = ts.length) ?_ ?_ ?_ ?_
      · exact ⟨_, _, _, _, A, S, rfl, s4, f, h4, hl3, by rw [rowsTo_00]; exact hh4, hS⟩
      · rintro i σ H' _ ⟨_, _, _, _, A, S, rfl, s, f, h, n, hh, hS⟩
        exact SqL.of h
      · clear hS hh hh4 f n s s4 h4 h hl3 v1 v2 v3 v4
        rintro i y σ H' hy ⟨v1, v2, v3, v4, A, S, rfl, s, f, h, n, hh, hS⟩
        obtain ⟨hi, rfl⟩ := intsUp_at hy
        obtain ⟨b, hb⟩ : ∃ b, bs[i]? = some b := ⟨bs[i], List.getElem?_eq_getElem hi⟩
        obtain ⟨hbn, _⟩ := name_at hnm hb
        have hbo := hok b (List.mem_of_getElem? hb)
        obtain ⟨a, ha, vs, hv, htv⟩ := pr_get pf hb
        rw [← hbn]
        have hlen := pr_len htv
        refine ⟨_, rfl, _, rfl, ar, .ref a, rfl, ?_, a, vs, rfl, s _ _ hv, ?_⟩
        · rw [← rowAt hfl hnd hb ha]; exact DGet.k (k := Sum.inl b.name) (rr s)
        refine for_enum (xs := vs) (fun j σ H' => ∃ v_at v_thing v_slot A S, σ = [some (.ref ak), some (.ref ar), some (.ref as), some (.int extra), some (.ref x), some (.int b.name), v_at, v_thing, v_slot] ∧ Same H H' ∧ (∀ b ∈ HA.foot A x, H b = none) ∧
          H' l2 = some (.lst ((intsUp 1 bs.length).map V.int)) ∧ l2 ∉ HA.foot A x ∧ HouseAt C H' x A ⟨bs.length + extra, S, bs.length, rowsTo bs i j, e4, e4⟩ ∧ S.length = ts.length) ?_ ?_ ?_ ?_
        · exact ⟨_, _, _, A, S, rfl, s, f, h, n, hh, hS⟩
        · rintro j σ H' _ ⟨_, _, _, A, S, rfl, s, f, h, n, hh, hS⟩
          exact s _ _ hv
        · clear hS hh f n s h v1 v2 v3 v4
          rintro j y σ H' q1 hy ⟨v1, v2, v3, A, S, rfl, s, f, h, n, hh, hS⟩ hq1
          obtain ⟨t, ht, tv⟩ := pr_getR htv hy
          have hj := (List.getElem?_eq_some_iff.mp ht).1
          have s2 := s.trans (Same.new (o := .tup [.int (j : Int), y]) hq1)
          have hh2 := hh.new (o := .tup [.int (j : Int), y]) hq1
          have h2 := kp_n (o := .tup [.int (j : Int), y]) h hq1
          have htu := (upd_same (H := H') (a := q1) (o := .tup [.int (j : Int), y]))
          generalize upd H' q1 (.tup [.int (j : Int), y]) = H5 at s2 hh2 h2 htu ⊢
          refine ⟨q1, _, _, rfl, htu, ?_⟩
          refine ⟨_, rfl, x, A.dx, _, rfl, hh2.ob, hf_none (by decide +kernel), _, rfl, _, rfl, _, rfl, x, A, _, i, ⟨b.name, b.kind, b.row.take j ++ List.replicate (b.row.length - j) .non⟩, j, y, t, rfl, hh2, rowsTo_at hb, ?_, tv.keep (Tups.of_same s2), ?_, fun A2 H2 hh3 fr2 tu2 gr2 => ?_⟩
          · simp only [List.length_append, List.length_take, List.length_replicate]; omega
          · intro n' e
            subst e
            have := hbo.ts _ (List.mem_of_getElem? ht)
            show n' ∈ (rowsTo bs i j).map (·.name)
            rw [rowsTo_name, hnm, intsUp_mem]
            exact ⟨this.1, by have := this.2; omega⟩
          obtain ⟨g1, g2, g3, g4⟩ := stepHouse (C := C) (S := HS.empty 0 0) s2 f h2 n fr2 gr2
          have e : HS.put ⟨bs.length + extra, S, bs.length, rowsTo bs i j, e4, e4⟩ i j t = ⟨bs.length + extra, S, bs.length, rowsTo bs i (j + 1), e4, e4⟩ := by
            unfold HS.put
            simp only [rowsTo_put hb ht]
          rw [e] at hh3
          exact ⟨_, _, _, A2, S, rfl, g1, g2, g3, g4, hh3, hS⟩
        · rintro σ H' ⟨v1, v2, v3, A, S, rfl, s, f, h, n, hh, hS⟩
          rw [← hlen, rowsTo_next hb] at hh
          exact ⟨_, _, _, _, A, S, rfl, s, f, h, n, hh, hS⟩
      · clear hS hh hh4 f n s s4 h4 h hl3 v1 v2 v3 v4
        rintro σ H' ⟨v1, v2, v3, v4, A, S, rfl, s, f, h, n, hh, hS⟩
        rw [en, rowsTo_all] at hh
        -- for slot, thing in enumerate(slots)
        refine ⟨_, rfl, as, ws, rfl, s _ _ hw, ?_⟩
        refine for_enum (xs := ws) (fun j σ H' => ∃ v_name v_at v_thing v_slot A, σ = [some (.ref ak), some (.ref ar), some (.ref as), some (.int extra), some (.ref x), v_name, v_at, v_thing, v_slot] ∧ Same H H' ∧ (∀ b ∈ HA.foot A x, H b = none) ∧
          H' l2 = some (.lst ((intsUp 1 bs.length).map V.int)) ∧ l2 ∉ HA.foot A x ∧ HouseAt C H' x A ⟨bs.length + extra, ts.take j ++ S.drop j, bs.length, bs, e4, e4⟩) ?_ ?_ ?_ ?_
        · exact ⟨_, _, _, _, A, rfl, s, f, h, n, by simpa using hh⟩
        · rintro j σ H' _ ⟨_, _, _, _, A, rfl, s, f, h, n, hh⟩
          exact s _ _ hw
        · clear hh f n s h v1 v2 v3 v4
          rintro j y σ H' q1 hy ⟨v1, v2, v3, v4, A, rfl, s, f, h, n, hh⟩ hq1
          obtain ⟨t, ht, tv⟩ := pr_getR htw hy
          have hj := (List.getElem?_eq_some_iff.mp ht).1
          have s2 := s.trans (Same.new (o := .tup [.int (j : Int), y]) hq1)
          have hh2 := hh.new (o := .tup [.int (j : Int), y]) hq1
          have h2 := kp_n (o := .tup [.int (j : Int), y]) h hq1
          have htu := (upd_same (H := H') (a := q1) (o := .tup [.int (j : Int), y]))
          generalize upd H' q1 (.tup [.int (j : Int), y]) = H5 at s2 hh2 h2 htu ⊢
          refine ⟨q1, _, _, rfl, htu, ?_⟩
          refine ⟨_, rfl, x, A.dx, _, rfl, hh2.ob, hf_none (by decide +kernel), _, rfl, _, rfl, x, A, _, j, y, t, rfl, hh2, ?_, tv.keep (Tups.of_same s2), ?_, fun A2 H2 hh3 fr2 tu2 gr2 => ?_⟩
          · simp only [List.length_append, List.length_take, List.length_drop]; omega
          · intro n' e
            subst e
            have := hts _ (List.mem_of_getElem? ht)
            show n' ∈ bs.map (·.name)
            rw [hnm, intsUp_mem]
            exact ⟨this.1, by have := this.2; omega⟩
          obtain ⟨g1, g2, g3, g4⟩ := stepHouse (C := C) (S := HS.empty 0 0) s2 f h2 n fr2 gr2
          have e : HS.hold ⟨bs.length + extra, ts.take j ++ S.drop j, bs.length, bs, e4, e4⟩ j t = ⟨bs.length + extra, ts.take (j + 1) ++ S.drop (j + 1), bs.length, bs, e4, e4⟩ := by
            unfold HS.hold
            simp only [set_take_drop ht (show j < S.length by omega)]
          rw [e] at hh3
          exact ⟨_, _, _, _, A2, rfl, g1, g2, g3, g4, hh3⟩
        · rintro σ H' ⟨v1, v2, v3, v4, A, rfl, s, f, h, n, hh⟩
          have e : ts.take ws.length ++ S.drop ws.length = ts := by
            rw [← pr_len htw, List.take_length, List.drop_eq_nil_of_le (by omega), List.append_nil]
          rw [e] at hh
          exact ⟨_, rfl, q x A H' s hh f⟩
end
end LW


/-! MORE RULES over the layer: xs.remove(n), xs a list of ints -/
namespace L2
open PySem PySem.Spec PyProof.Rows
section
variable {X : Cx}
end
end L2

/-! rules inside of a comprehension -/
namespace LW
open PySem L2
end LW

/-! THE LAW's reckoning of who is held -/
namespace LW
open PySem L2
end LW

/-! THE LAW's defs: the boxes among things -/
namespace LW
open PySem L2
section
variable {P : Program} {w : World} {K : PySem.W.Frag} {mg : Str → Option Value} {base : Heap} {C CS : Addr}
end
end LW


/-! WALKS -/
namespace LW
open PySem L2
theorem take_sn {α : Type} {l : List α} {i : Nat} {x : α} (h : l[i]? = some x) : l.take (i + 1) = l.take i ++ [x] := by rw [List.take_add_one, h]; rfl
/-- every box leads within -/
def Closed (bs : List Box) : Prop := ∀ b ∈ bs, b.row.length ≤ 900 ∧ ∀ m, .box m ∈ b.row → m ∈ bs.map (·.name)
def spThings (C : Addr) : Sp := fun vs H Q _ => ∃ (p : Addr) (A : HA) (S : HS) (i : Nat) (b : Box), vs = [.ref p, .int b.name] ∧ HouseAt C H p A S ∧ S.boxes[i]? = some b ∧ b.row.length ≤ 900 ∧ ∀ l H', Same H H' → H l = none → ThL H' b.row l → Q (.ref l) H'
def RowAt (H : Hp) (ar : Addr) (bs : List Box) (fl : List Addr) : Prop := H ar = some (.dK (fieldsD bs fl)) ∧ Paired (fun b a => ThL H b.row a) bs fl
end LW

/-! THE PROGRAM's defs: walks -/
namespace LW
open PySem L2
section
variable {P : Program} {w : World} {K : PySem.W.Frag} {mg : Str → Option Value} {base : Heap} {C : Addr}
theorem bs_f_things_in_0 : BlkScope (defScope s_f_things_in) ["house", "name"] (compScope ((retVal (stAt (defBody s_f_things_in) 0)))) "at" ["name", "house"] [1, 0] :=
  ⟨by rfl, by decide +kernel, by decide +kernel, by decide +kernel, by rfl, by decide +kernel, by rfl, by decide +kernel⟩
theorem ok_f_things_in {n : Nat} {f : Addr} {fd : FuncData} (F : Fun K "things_in" "things_in" s_f_things_in f fd) (T : TX K mg C) (M_size : MethOk P w K mg base C n "size" ["self", "name"] (spSize C) [[]])
    (M_field : MethOk P w K mg base C n "field" ["self", "name", "at"] (spField C) [[]]) :
    FnOk P w K mg base CX0 (n + 1) f fd ["house", "name"] (spThings C) := by
  obtain ⟨f_size, fd_size, m_size, G_size, b_size⟩ := M_size
  obtain ⟨f_field, fd_field, m_field, G_field, b_field⟩ := M_field
  refine F.ok sc_f_things_in (fun vs H Q E h => ?_) (fun cdv A outer s H vs Q E hr h => ?_)
  · obtain ⟨p, A', S, i, b, rfl, _⟩ := h
    rfl
  · obtain ⟨p, A', S, i, b, rfl, hh, hb, hrow, k⟩ := h
    have hu := hu_of hr
    refine ⟨_, (pss_one (ps_ret (pe_comp bs_f_things_in_0 rfl (pi_range1 (by rfl) T.g_range (pa_cons (pe_meth (pv 0) T.cl m_size G_size hr (b_size [] (by simp)) .nil pass0 (pa_cons (pv 1) pa_nil)) pa_nil)) (fun _ _ _ _ => pifs_nil) (fun _ _ _ _ => (pe_meth (pv 2) T.cl m_field G_field hr (b_field [] (by simp)) .nil pass0 (pa_cons (pv 1) (pa_cons (pv 0) pa_nil))))))), ?_⟩
    refine ⟨_, rfl, p, A'.dx, _, rfl, hh.ob, hf_none (by decide +kernel), _, rfl, p, A', S, i, b, rfl, hh, hb, (b.row.length : Int), rfl, by omega, by omega, ?_⟩
    refine comp_range (lo := 0) (n := ((b.row.length : Int)).toNat) (fun j ys H' => H' = H ∧ Ths H (b.row.take j) ys) ⟨rfl, .nil⟩ ?_ (len_small (by omega)) ?_ ?_
    · rintro j ys H' ⟨_, ht⟩
      rw [← pr_len ht, List.length_take]; omega
    · rintro j ys H' hj ⟨rfl, ht⟩
      dsimp only [tNoIf]
      have e0 : (0 : Int) + (j : Int) = (j : Int) := Int.zero_add _
      rw [e0]
      have hjr : j < b.row.length := by omega
      refine iteT ⟨_, rfl, p, A'.dx, _, rfl, hh.ob, hf_none (by decide +kernel), _, rfl, _, rfl, p, A', S, i, b, j, b.row[j], rfl, hh, hb, List.getElem?_eq_getElem hjr, fun v tv => ⟨rfl, ?_⟩⟩
      rw [take_sn (List.getElem?_eq_getElem hjr)]
      exact pr_app ht (.cons tv .nil)
    · rintro ys H4 ⟨rfl, ht⟩ r hr4
      rw [show ((b.row.length : Int)).toNat = b.row.length by omega, List.take_length] at ht
      exact k r _ (Same.new hr4) hr4 ⟨ys, upd_same, Ths.keep (Tups.new hr4) ht⟩
theorem find_name {S : HS} {n : Int} (h : n ∈ names S) : ∃ (i : Nat) (b : Box), S.boxes[i]? = some b ∧ b.name = n := by
  obtain ⟨b, hb, e⟩ := List.mem_map.mp h
  obtain ⟨i, hi⟩ := List.getElem?_of_mem hb
  exact ⟨i, b, hi, e⟩
end
end LW


namespace PySem
open Sem (wp)
namespace F
theorem plain_dict_loop : plainId "dict.update.loop" = true := by decide +kernel
theorem entry_dict_loop : entryFor table "dict.update.loop" = some Builtin.«dict.update.loop» := entryFor_of_fast (by kernel_rfl)
end F
theorem lk_list_keys : typeLookup (.type "list") "keys" = pure none := by rw [typeLookup_type, builtinLookup_eq_fast]; kernel_rfl
theorem keys_none {prog : Program} {w : World} {A : Around} {E : Value → Shared → Prop} {s : Shared} {a : Addr} {xs : Array Value} {k : Nat} {Q : Option Value → Shared → Prop}
    (hx : s.heap.get? a = some { cls := .type "list", dict := none, data := .seq xs k, slots := #[] }) (hA : A.handled = none)
    (h : ∀ h' tk, (∀ b o, s.heap.get? b = some o → h'.get? b = some o) → Q none { s with heap := h', toks := tk }) : wpAny (model prog w) A (getAttr? (.ref a) "keys") Q E s := by
  obtain ⟨hp, g, d, tk, os⟩ := s
  have hT : ∀ tk', (⟨hp, g, d, tk', os⟩ : Shared).TypeIs (.ref a) "list" := fun _ => ⟨_, hx, rfl⟩
  have f1 := sub_AttributeError
  have f3 := F.slot_list_getattribute.lookup
  have f4 := F.slot_list_getattribute.bind (.ref a)
  have f5 := am_list_getattr_none
  unfold getAttr? getAttrBy? getAttrBy
  repeat (any_goals (first | assumption | exact hT _ | ((with_reducible show wpAny _ _ (call (Value.builtin "list.__getattribute__") _ _) _ _ _); refine call_meets F.slot_list_getattribute (hT _) am_entry_list_getattribute (F.args_list_getattribute_2 _ _) (meets_getattribute_miss_list a xs k #[] "keys" _ lk_list_keys (by decide) (by decide)) ⟨hx, hA, fun h' tk' e hx' => ?_⟩) | wp_step))
  obtain ⟨t', u', he⟩ := hx'.there
  show wpAny _ _ (getattributeRaised _ _ _ _ _ _ _) _ _ _
  unfold getattributeRaised
  have hTe : ∀ tk'', (⟨h', g, d, tk'', os⟩ : Shared).TypeIs (.ref e) "AttributeError" := fun _ => ⟨_, he, rfl⟩
  repeat (any_goals (first | assumption | exact hTe _ | wp_step))
  all_goals exact h _ _ hx'.keeps
section
variable {prog : Program} {w : World} {K : Type} [DecidableEq K] {knd : KeyKind prog w K} {A : Around} {R : Result → Shared → Prop} {d I l : Addr} {its : Array Value} {ps : List (K × Value)} {res : Value} {h0 : Heap}
theorem code_dict_loop (hA : A.in1.handled = none) (hdI : d ≠ I) (hdl : d ≠ l) (hlI : l ≠ I) (hsz : its.size = ps.length) (hl : h0.IsList l its) (hfew : ps.length ≤ sizeLine)
    (hP : ∀ (j : Nat) (kv : K × Value), ps[j]? = some kv → ∃ (T : Addr) (key : Value), its[j]? = some (.ref T) ∧ T ≠ d ∧ T ≠ I ∧ knd.is kv.1 key = true ∧ h0.IsTuple T #[key, kv.2]) :
    ∀ (k i : Nat) (s : Shared), ps.length - i = k → i ≤ ps.length → s.heap.IsListIter I l i → (∀ b o, b ≠ d → b ≠ I → h0.get? b = some o → s.heap.get? b = some o) → s.heap.DictOf knd d (merged [] (ps.take i)) →
      (∀ h' tk, h'.DictOf knd d (merged [] ps) → (∀ b o, b ≠ d → b ≠ I → s.heap.get? b = some o → h'.get? b = some o) → R (.ok (.ret res)) { s with heap := h', toks := tk }) →
      codeAny (model prog w) A (.builtin "dict.update.loop" ⟨[.ref d, .ref I, rawInt i, res], []⟩) R s := by
  intro k
  induction k with
  | zero =>
    intro i s hk hi hit kp hd hR
    obtain rfl : i = ps.length := by omega
    refine codeAny_builtin F.entry_dict_loop ?_
    rw [Around.under_plainId F.plain_dict_loop _]
    show wpAny _ A.in1 (pyNext (.ref I) >>= _) _ _ s
    refine wpAny_bind (wpAny_pyNext_list_end hA hit (hl.at fun o e => kp l o hdl.symm hlI e) (by simp [← hsz]) fun h' he' => ?_)
    rw [List.take_length] at hd
    exact wpAny_bind (wpAny_pure (wpAny_pure (hR h' s.toks (hd.extBut he' hdI) fun b o n1 n2 e => he' b o n2 e)))
  | succ k ih =>
    intro i s hk hi hit kp hd hR
    have hlt : i < ps.length := by omega
    obtain ⟨kv, hkv⟩ : ∃ kv, ps[i]? = some kv := ⟨_, List.getElem?_eq_getElem hlt⟩
    obtain ⟨T, key, hT, nTd, nTI, hkey, htup⟩ := hP i kv hkv
    refine codeAny_builtin F.entry_dict_loop ?_
    rw [Around.under_plainId F.plain_dict_loop _]
    show wpAny _ A.in1 (pyNext (.ref I) >>= _) _ _ s
    refine wpAny_bind (wpAny_pyNext_list_item hit (hl.at fun o e => kp l o hdl.symm hlI e) hT fun h' hit' hs' => ?_)
    have htup' : h'.IsTuple T #[key, kv.2] := (htup.at fun o e => kp T o nTd nTI e).extBut hs'.extBut nTI
    have hd' : h'.DictOf knd d (merged [] (ps.take i)) := hd.extBut hs'.extBut hdI
    show wpAny _ A.in1 (holding [Value.ref T] _ >>= _) _ _ _
    refine wpAny_bind (wpAny_holding ?_)
    have hTt : (Shared.mk h' s.gens s.drawn s.toks s.os).TypeIs (.ref T) "tuple" := htup'.typeIs
    refine wpAny_bind ?_
    have go : wpAny (model prog w) A.in1 (Builtin.Dict.pairItems (Value.ref T)) (fun a s' => a = [key, kv.2] ∧ s' = { s with heap := h' }) (fun _ _ => False) { s with heap := h' } := by
      unfold Builtin.Dict.pairItems
      obtain ⟨o, ho, hc, n, hdt⟩ := htup'
      refine wpAny_bind (wpAny_typeOf hTt ?_)
      simp only [show (Value.type "tuple" == Value.type "list" || Value.type "tuple" == Value.type "tuple") = true by decide, if_true]
      refine wpAny_bind (wpAny_seqItems ho hdt ?_)
      exact wpAny_pure ⟨rfl, rfl⟩
    refine wpAny_tryCatch (wpAny_mono go (fun a s' z => ?_) fun _ _ z => False.elim z)
    obtain ⟨rfl, rfl⟩ := z
    show wpAny _ A.in1 (holding [key, kv.2] (dictSet d key kv.2)) _ _ _
    refine wpAny_holding (wpAny_dictSet_pairs hkey hd' (fun h'' hd'' hs'' => ?_) ?_)
    · have e : stored (merged [] (ps.take i)) kv.1 kv.2 = merged [] (ps.take (i + 1)) := (merged_take_succ [] ps i kv hkv).symm
      rw [e] at hd''
      refine wpAny_pure ⟨plainId_quiet F.plain_dict_loop _, ?_⟩
      show codeAny (model prog w) A (.builtin "dict.update.loop" ⟨[.ref d, .ref I, rawInt ((i + 1 : Nat) : Int), res], []⟩) R _
      refine ih (i + 1) _ (by omega) hlt (hit'.at fun o e => hs''.extBut I o hdI.symm e) (fun b o n1 n2 e => hs''.extBut b o n1 (hs'.extBut b o n2 (kp b o n1 n2 e))) hd'' fun h3 tk hd3 k3 => ?_
      exact hR h3 tk hd3 fun b o n1 n2 e => k3 b o n1 n2 (hs''.extBut b o n1 (hs'.extBut b o n2 e))
    · have := merged_length_le ([] : List (K × Value)) (ps.take i)
      rw [List.length_take] at this
      simp only [List.length_nil] at this
      omega
/-- dict([(k, v), ..]) -/
theorem call_dict_pairs {E : Value → Shared → Prop} {s : Shared} {c : Nat} {Q : Value → Shared → Prop} (hA : A.handled = none) (hl : s.heap.get? l = some { cls := .type "list", dict := none, data := .seq its c, slots := #[] }) (hsz : its.size = ps.length) (hfew : ps.length ≤ sizeLine) (hn : (ps.map (·.1)).Nodup)
    (hP : ∀ (j : Nat) (kv : K × Value), ps[j]? = some kv → ∃ (T : Addr) (key : Value), its[j]? = some (.ref T) ∧ knd.is kv.1 key = true ∧ s.heap.IsTuple T #[key, kv.2])
    (h : ∀ h' tk, h'.DictOf knd s.heap.objs.size ps → (∀ b o, s.heap.get? b = some o → h'.get? b = some o) → Q (.ref s.heap.objs.size) { s with heap := h', toks := tk }) :
    wpAny (model prog w) A (call (.type "dict") [.ref l]) Q E s := by
  refine callType_codes (Q₁ := fun obj s₁ => obj = .ref s.heap.objs.size ∧ s₁ = { s with heap := s.heap.push { cls := .type "dict", data := .dict #[] } }) F.kt_called_dict (F.kt_typeCall_dict_1 _) F.entry_dict_init (kt_code_dict_new _ ⟨rfl, rfl⟩) ?_
  rintro obj s₁ ⟨rfl, rfl⟩
  have hnew : (s.heap.push { cls := .type "dict", data := .dict #[] }).DictOf knd s.heap.objs.size [] := Heap.DictOf.new s.heap
  refine ⟨hnew.typeIs, F.args_dict_init_2 _ _, ?_⟩
  unfold Builtin.«dict.__init__»
  refine wpAny_bind ?_
  unfold Builtin.Dict.selfAndRest
  refine wpAny_bind (wpAny_notOrdered_dict hnew.typeIs ?_)
  show wpAny _ _ (pure (s.heap.objs.size, [Value.ref l])) _ _ _
  refine wpAny_pure ?_
  show wpAny _ _ (Builtin.Dict.updateFrom "dict.__init__" s.heap.objs.size (.ref l) [] .none) _ _ _
  unfold Builtin.Dict.updateFrom
  have hT1 : (Shared.mk (s.heap.push { cls := .type "dict", data := .dict #[] }) s.gens s.drawn s.toks s.os).TypeIs (.ref l) "list" := ⟨_, Heap.get?_push_of_some _ hl, rfl⟩
  refine wpAny_bind (wpAny_typeOf hT1 ?_)
  rw [if_pos (by decide)]
  refine wpAny_bind (keys_none (s := { s with heap := s.heap.push { cls := .type "dict", data := .dict #[] } }) (Heap.get?_push_of_some _ hl) (show A.in1.in1.handled = none from hA) fun h1 tk1 k1 => ?_)
  rw [if_pos (show (none : Option Value).isNone = true from rfl)]
  refine wpAny_bind (wpAny_rule ?_)
  have hl1 : h1.IsList l its := ⟨_, k1 _ _ (Heap.get?_push_of_some _ hl), rfl, _, rfl⟩
  refine wpAny_bind (wpAny_pyIter_list (s := { s with heap := h1, toks := tk1 }) hl1 ?_)
  refine wpAny_pure ⟨plainId_quiet F.plain_dict_loop _, ?_⟩
  have hd1 : h1.DictOf knd s.heap.objs.size [] := hnew.keep k1
  have kp1 : ∀ b o, s.heap.get? b = some o → h1.get? b = some o := fun b o e => k1 b o (Heap.get?_push_of_some _ e)
  have lt : ∀ b o, s.heap.get? b = some o → b < s.heap.objs.size := fun b o e => Heap.lt_size e
  have hds : s.heap.objs.size < h1.objs.size := by obtain ⟨o, _, _, ho, _⟩ := hd1; exact Heap.lt_size ho
  have hll : l < s.heap.objs.size := lt _ _ hl
  refine code_dict_loop (A := A.in1) (h0 := h1.push { cls := .type "list_iterator", data := .fields #[.ref l, .int 0 0] }) (show A.in1.in1.handled = none from hA) (Nat.ne_of_lt hds) (Nat.ne_of_gt hll) (Nat.ne_of_lt (Nat.lt_trans hll hds)) hsz (hl1.at fun o e => Heap.get?_push_of_some _ e) hfew (fun j kv hj => ?_) ps.length 0 _ rfl (Nat.zero_le _) ⟨_, Heap.get?_push_size _ rfl, rfl, rfl⟩ (fun b o _ _ e => e) (hd1.push _) fun h' tk hd' k' => ?_
  · obtain ⟨T, key, e1, e2, e3⟩ := hP j kv hj
    have hTl : T < s.heap.objs.size := by obtain ⟨o, ho, _⟩ := id e3; exact lt _ _ ho
    exact ⟨T, key, e1, Nat.ne_of_lt hTl, Nat.ne_of_lt (Nat.lt_trans hTl hds), e2, e3.at fun o e => Heap.get?_push_of_some _ (kp1 _ _ e)⟩
  · rw [merged_nil_of_nodup ps hn] at hd'
    refine ⟨rfl, h h' tk hd' fun b o e => ?_⟩
    have := lt b o e
    exact k' b o (Nat.ne_of_lt this) (Nat.ne_of_lt (Nat.lt_trans this hds)) (Heap.get?_push_of_some _ (kp1 b o e))
end
end PySem

namespace L2
open PySem PySem.Spec PyProof.Rows PySem.W
theorem vals_ref : ∀ {as : List Addr} {its : List Value}, Vals (as.map V.ref) its → its = as.map Value.ref
  | [], _, .nil => rfl
  | _ :: _, _, .cons r t => by rw [vals_ref t]; cases r; rfl
section
variable {X : Cx} {pins : List (Addr × Obj)} {σ : St} {H : Hp} {s : Shared}
theorem pairs_of (I : Inv X pins σ H s) : ∀ {kvs : List (Key × V)} {as : List Addr}, Paired (fun (kv : Key × V) (a : Addr) => H a = some (.tup [kV kv.1, kv.2])) kvs as →
    ∃ ps : List (Key × Value), KV kvs ps ∧ ∀ (j : Nat) (kv : Key × Value), ps[j]? = some kv → ∃ (T : Addr) (key : Value), as[j]? = some T ∧ (mixKind X.prog X.w).is kv.1 key = true ∧ s.heap.IsTuple T #[key, kv.2]
  | _, _, .nil => ⟨[], .nil, fun j kv h => by simp at h⟩
  | _, _, .cons (a := kv) (b := a) h t => by
    obtain ⟨ps, r, f⟩ := pairs_of I t
    obtain ⟨its, r1, p1, _⟩ := I.tuple (SqT.of h)
    obtain ⟨u, w', rfl, ru, rw'⟩ := vals2 r1
    refine ⟨(kv.1, w') :: ps, .cons ⟨rfl, rw'⟩ r, fun j kv' hj => ?_⟩
    cases j with
    | zero =>
      have hj : (kv.1, w') = kv' := by simpa using hj
      subst hj
      exact ⟨a, u, rfl, kV_is ru, p1⟩
    | succ j =>
      obtain ⟨T, key, e1, e2, e3⟩ := f j kv' (by simpa using hj)
      exact ⟨T, key, by simpa using e1, e2, e3⟩
theorem call_dictP (hA : X.A.handled = none) : CallR X (.type "dict") (fun xs H Q => ∃ (l : Addr) (as : List Addr) (kvs : List (Key × V)), xs = [.ref l] ∧ H l = some (.lst (as.map V.ref)) ∧ Paired (fun (kv : Key × V) (a : Addr) => H a = some (.tup [kV kv.1, kv.2])) kvs as ∧ (kvs.map (·.1)).Nodup ∧ ∀ d, H d = none → Q (.ref d) (upd H d (.dK kvs))) := by
  intro pins s σ H xs us Q I r h
  obtain ⟨l, as, kvs, rfl, hl, pr, nd, q⟩ := h
  obtain ⟨u, rfl, rx⟩ := vals1 r
  cases rx
  obtain ⟨z, its, c, r', hl', e⟩ := I.lstM hl
  obtain rfl := vals_ref r'
  obtain ⟨ps, rel, f⟩ := pairs_of I pr
  have l1 : kvs.length = ps.length := Paired.length rel
  have l2 : kvs.length = as.length := Paired.length pr
  have lz : ps.length ≤ sizeLine := by rw [List.length_map] at z; omega
  have nd' : (ps.map (·.1)).Nodup := by
    have : ∀ {kvs : List (Key × V)} {ps : List (Key × Value)}, KV kvs ps → ps.map (·.1) = kvs.map (·.1) := fun rel => by
      induction rel with
      | nil => rfl
      | cons h t ih => simp only [List.map_cons]; rw [ih, h.1]
    rw [this rel]; exact nd
  refine call_dict_pairs (knd := mixKind X.prog X.w) (ps := ps) hA e (by simp; omega) lz nd' (fun j kv hj => ?_) fun h' tk hd kp => ?_
  · obtain ⟨T, key, e1, e2, e3⟩ := f j kv hj
    exact ⟨T, key, by simp [e1], e2, e3⟩
  · exact ⟨.ref s.heap.objs.size, _, I.laid (t' := tk) kp (Nat.le_refl _) (dk_new (by omega) (beq_eq_false_iff_ne.mpr (Ne.symm (Nat.ne_of_lt I.big))) rel hd), rfl, q _ (I.hok.fresh (Nat.le_refl _))⟩
end
end L2

/-! COMPREHENSIONS over pairs -/
namespace L2
open PySem PySem.Spec PyProof.Rows
section
variable {X : Cx} {pins : List (Addr × Obj)} {σ : St} {H : Hp} {s : Shared} {sc : Scope} {x yy : Str} {N : List Str} {fr : List Nat} {C : Addr} {ex : List Addr}
end
section
variable {X : Cx} {elt iter : Expr} {x yy : Str} {px py tp pos : Pos} {tk : Nat} {ifs : List Expr} {sc : Scope} {N : List Str} {fr : List Nat} {wi : TI} {tc : TT} {te : TE}
end
end L2

/-! == of nested lists and tuples -/
namespace L2
open PySem PySem.Spec PyProof.Rows PySem.W
/-- what == says of two items, so many tuples deep -/
inductive EqG (H : Hp) : Nat → V → V → Bool → Prop
  | flat {n : Nat} {v u : V} (h1 : flatV v = true) (h2 : flatV u = true) : EqG H n v u (eqV v u)
  | same {n : Nat} {v : V} (hnb : (match v with | .byt _ => false | .flt _ => false | _ => true) = true) : EqG H n v v true
  | tf {n : Nat} {a : Addr} {xs : List V} {u : V} (h1 : H a = some (.tup xs)) (h2 : flatV u = true) : EqG H n (.ref a) u false
  | ft {n : Nat} {a : Addr} {xs : List V} {u : V} (h1 : H a = some (.tup xs)) (h2 : flatV u = true) : EqG H n u (.ref a) false
  | tup {n : Nat} {a b : Addr} {xs ys : List V} {e : Nat → Bool} (ne : a ≠ b) (ha : H a = some (.tup xs)) (hb : H b = some (.tup ys)) (he : ∀ (j : Nat) (x y : V), xs[j]? = some x → ys[j]? = some y → EqG H n x y (e j)) :
      EqG H (n + 1) (.ref a) (.ref b) ((List.range (min xs.length ys.length)).all e && xs.length == ys.length)
  | lst {n : Nat} {a b : Addr} {xs ys : List V} {e : Nat → Bool} (ne : a ≠ b) (ha : H a = some (.lst xs)) (hb : H b = some (.lst ys)) (he : ∀ (j : Nat) (x y : V), xs[j]? = some x → ys[j]? = some y → EqG H n x y (e j)) :
      EqG H (n + 1) (.ref a) (.ref b) (xs.length == ys.length && (List.range xs.length).all e)
section
variable {X : Cx} {pins : List (Addr × Obj)} {σ : St} {H : Hp} {s : Shared}
theorem items_eq {xs ys : List V} {its its2 : List Value} {e : Nat → Bool} {A : Around} (r1 : Vals xs its) (r2 : Vals ys its2)
    (he : ∀ (j : Nat) (x y : V) (u v : Value), xs[j]? = some x → ys[j]? = some y → RelV x u → RelV y v → SeqAt.EqAt A s u v (e j)) :
    ∀ j (h1 : j < its.toArray.size) (h2 : j < its2.toArray.size), SeqAt.EqAt A s its.toArray[j] its2.toArray[j] (e j) := fun j h1 h2 => by
  have l1 := r1.length
  have l2 := r2.length
  have h1 : j < its.length := by simpa using h1
  have h2 : j < its2.length := by simpa using h2
  have e1 : xs[j]? = some (xs[j]'(by omega)) := List.getElem?_eq_getElem (by omega)
  have e2 : ys[j]? = some (ys[j]'(by omega)) := List.getElem?_eq_getElem (by omega)
  obtain ⟨u1, q1, s1⟩ := r1.get e1
  obtain ⟨u2, q2, s2⟩ := r2.get e2
  have w1 : its.toArray[j] = u1 := by
    have := List.getElem?_eq_getElem h1
    rw [q1] at this
    simpa using (Option.some.inj this).symm
  have w2 : its2.toArray[j] = u2 := by
    have := List.getElem?_eq_getElem h2
    rw [q2] at this
    simpa using (Option.some.inj this).symm
  rw [w1, w2]
  exact he j _ _ _ _ e1 e2 s1 s2
theorem lists_eq {A : Around} {a b : Addr} {xs ys : List V} {e : Nat → Bool} (I : Inv X pins σ H s) (ha : H a = some (.lst xs)) (hb : H b = some (.lst ys)) (hu : A.units < cLine)
    (he : ∀ (j : Nat) (x y : V) (u v : Value), xs[j]? = some x → ys[j]? = some y → RelV x u → RelV y v → SeqAt.EqAt A.in1 s u v (e j)) : SeqAt.RcAt A s (.ref a) (.ref b) (xs.length == ys.length && (List.range xs.length).all e) := by
  obtain ⟨_, its, c, r1, _, e1⟩ := I.lstM ha
  obtain ⟨_, its2, c2, r2, _, e2⟩ := I.lstM hb
  have l1 := r1.length
  have l2 := r2.length
  have p1 : s.heap.IsList a its.toArray := ⟨_, e1, rfl, _, rfl⟩
  have p2 : s.heap.IsList b its2.toArray := ⟨_, e2, rfl, _, rfl⟩
  by_cases hz : xs.length = ys.length
  · have := SeqAt.RcAt.lists (e := e) p1 p2 (by simp; omega) hu (items_eq r1 r2 he)
    rw [show (xs.length == ys.length && (List.range xs.length).all e) = (List.range its.toArray.size).all e by rw [List.size_toArray, ← l1]; simp [hz]]
    exact this
  · have := SeqAt.RcAt.lists_lengths p1 p2 (by simp; omega) hu
    rw [show (xs.length == ys.length && (List.range xs.length).all e) = false by simp [hz]]
    exact this
theorem EqG.at {n : Nat} {v u : V} {b : Bool} (g : EqG H n v u b) (I : Inv X pins σ H s) : ∀ {A : Around} {v' u' : Value}, RelV v v' → RelV u u' → A.units + n < cLine → SeqAt.EqAt A s v' u' b := by
  induction g with
  | flat h1 h2 => exact fun r1 r2 _ => eqAt_V r1 r2 h1 h2
  | @same n v hnb =>
    intro A v' u' r1 r2 _
    cases v with
    | non => cases r1; cases r2; exact SeqAt.EqAt.same _
    | bl c => cases r1; cases r2; exact SeqAt.EqAt.same _
    | int i =>
      obtain ⟨t, rfl⟩ := r1
      obtain ⟨t', rfl⟩ := r2
      have := SeqAt.EqAt.int_int (A := A) (s := s) i t i t'
      rwa [beq_self_eq_true] at this
    | str x =>
      obtain ⟨t, rfl⟩ := r1
      obtain ⟨t', rfl⟩ := r2
      have := SeqAt.EqAt.str_str (A := A) (s := s) x t x t'
      rwa [beq_self_eq_true] at this
    | ref a => cases r1; cases r2; exact SeqAt.EqAt.same _
    | ty T => cases r1; cases r2; exact SeqAt.EqAt.same _
    | byt x => cases hnb
    | flt x => cases hnb
  | @tf n a xs u h1 h2 =>
    intro A v' u' r1 r2 hu
    cases r1
    obtain ⟨its, _, p1, _⟩ := I.tuple (SqT.of h1)
    have p1 : s.heap.IsTuple _ its.toArray := p1
    cases u with
    | non => cases r2; exact SeqAt.EqAt.tuple_none p1 (by omega)
    | bl c => cases r2; exact SeqAt.EqAt.tuple_bool c p1 (by omega)
    | int i => obtain ⟨t, rfl⟩ := r2; exact SeqAt.EqAt.tuple_int i t p1 (by omega)
    | str x => obtain ⟨t, rfl⟩ := r2; exact SeqAt.EqAt.tuple_str x t p1 (by omega)
    | ref a => cases h2
    | ty T => cases h2
    | byt x => cases h2
    | flt x => cases h2
  | @ft n a xs u h1 h2 =>
    intro A v' u' r1 r2 hu
    cases r2
    obtain ⟨its, _, p1, _⟩ := I.tuple (SqT.of h1)
    have p1 : s.heap.IsTuple _ its.toArray := p1
    cases u with
    | non => cases r1; exact SeqAt.EqAt.none_tuple p1 (by omega)
    | bl c => cases r1; exact SeqAt.EqAt.bool_tuple c p1 (by omega)
    | int i => obtain ⟨t, rfl⟩ := r1; exact SeqAt.EqAt.int_tuple i t p1 (by omega)
    | str x => obtain ⟨t, rfl⟩ := r1; exact SeqAt.EqAt.str_tuple x t p1 (by omega)
    | ref a => cases h2
    | ty T => cases h2
    | byt x => cases h2
    | flt x => cases h2
  | @tup n a b xs ys e ne ha hb he ih =>
    intro A v' u' r1 r2 hu
    cases r1
    cases r2
    obtain ⟨its, r1, p1, _⟩ := I.tuple (SqT.of ha)
    obtain ⟨its2, r2, p2, _⟩ := I.tuple (SqT.of hb)
    have l1 := r1.length
    have l2 := r2.length
    have := SeqAt.RcAt.tuples (A := A) (e := e) (show s.heap.IsTuple a its.toArray from p1) (show s.heap.IsTuple b its2.toArray from p2) (by omega) (items_eq r1 r2 fun j x y u v hx hy rx ry => ih j x y hx hy rx ry (by show A.units + 1 + n < cLine; omega))
    rw [List.size_toArray, List.size_toArray, ← l1, ← l2] at this
    exact SeqAt.EqAt.of_refs ne this
  | @lst n a b xs ys e ne ha hb he ih =>
    intro A v' u' r1 r2 hu
    cases r1
    cases r2
    exact SeqAt.EqAt.of_refs ne (lists_eq I ha hb (by omega) fun j x y u v hx hy rx ry => ih j x y hx hy rx ry (by show A.units + 1 + n < cLine; omega))
end
end L2

namespace L2
open PySem PySem.Spec PyProof.Rows PySem.W
section
variable {X : Cx}
end
end L2

/-! != of nested lists -/
namespace L2
open PySem PySem.Spec PyProof.Rows PySem.W
section
variable {X : Cx} {pins : List (Addr × Obj)} {σ : St} {H : Hp} {s : Shared}
def rNeG : R2 := fun x y H Q => ∃ (a b : Addr) (xs ys : List V) (e : Nat → Bool), x = .ref a ∧ y = .ref b ∧ H a = some (.lst xs) ∧ H b = some (.lst ys) ∧ (∀ (j : Nat) (x y : V), xs[j]? = some x → ys[j]? = some y → EqG H 8 x y (e j)) ∧ Q (.bl (!(xs.length == ys.length && (List.range xs.length).all e))) H
theorem op_neG (hu : X.A.units + 64 < cLine) : OpR X (compareOp .NotEq) rNeG := by
  intro pins s σ H x y v u Q I rx ry h
  obtain ⟨a, b, xs, ys, e, rfl, rfl, ha, hb, he, q⟩ := h
  cases rx
  cases ry
  obtain ⟨_, its, c, r1, _, e1⟩ := I.lstM ha
  obtain ⟨_, its2, c2, r2, _, e2⟩ := I.lstM hb
  have l1 := r1.length
  have l2 := r2.length
  have p1 : s.heap.IsList a its.toArray := ⟨_, e1, rfl, _, rfl⟩
  have p2 : s.heap.IsList b its2.toArray := ⟨_, e2, rfl, _, rfl⟩
  have hit := items_eq (s := s) (A := X.A.in1) (e := e) r1 r2 (fun j x y u v hx hy r1 r2 => (he j x y hx hy).at I r1 r2 (by show X.A.units + 1 + 8 < cLine; omega))
  by_cases hz : xs.length = ys.length
  · refine SeqAt.RcNeAt.lists (e := e) p1 p2 (by simp; omega) (by omega) hit X.prog X.w X.xe _ ?_
    rw [show (List.range its.toArray.size).all e = (xs.length == ys.length && (List.range xs.length).all e) by rw [List.size_toArray, ← l1]; simp [hz]]
    exact ⟨.bl _, H, I, rfl, q⟩
  · refine SeqAt.RcNeAt.lists_lengths p1 p2 (by simp; omega) (by omega) X.prog X.w X.xe _ ?_
    rw [show (xs.length == ys.length && (List.range xs.length).all e) = false by simp [hz]] at q
    exact ⟨.bl true, H, I, rfl, q⟩
end
end L2

/-! {(a, b): v}: a dict by tuples, of one pair -/
namespace L2
open PySem PySem.Spec PyProof.Rows PySem.W
def tDispT (tk tv : TE) : TE := fun σ H Q => ∀ p, H p = none → tk σ (upd H p (.dT [])) fun x H1 => tv σ H1 fun y H2 => H2 p = some (.dT []) ∧ ∃ (b : Addr) (ks : List Key), x = .ref b ∧ H2 b = some (.tup (ks.map kV)) ∧ Q (.ref p) (upd H2 p (.dT [(ks, y)]))
section
variable {X : Cx} {pos : Pos} {k v : Expr} {tk tv : TE}
theorem pe_dispT (hu : X.A.units + 1 < cLine) (hk : PE X k tk) (hv : PE X v tv) : PE X (.Dict [some k] [v] pos) (tDispT tk tv) := by
  intro pins s σ H Q I q
  have hn := I.hok.fresh (Nat.le_refl s.heap.objs.size)
  have I1 := I.laid (a := s.heap.objs.size) (o := .dT []) (h' := s.heap.push { cls := .type "dict", data := .dict #[] }) (t' := s.toks) (fun _ _ q => Heap.get?_push_of_some _ q) (Nat.le_refl _) (dt_empty s.heap I.big)
  rw [arm_eval_Dict, zip_pairTrees [some k] [v] X.env pos rfl rfl, dictDisplay_pairs (pairTrees [some k] [v] X.env pos) (by intro z; cases z) (by show 1 < 17; decide)]
  refine wpAny_bind (wpAny_standAt (wpAny_bind ?_))
  unfold subDict
  refine wpAny_bind (wpAny_alloc ?_)
  refine wpAny_bind (wpAny_holding ?_)
  rw [if_pos (by show 1 ≤ 15; decide)]
  refine wpAny_bind (pairTrees_cons_walk (thn (hk pins _ σ _ _ I1 (q _ hn)) fun u s1 ⟨x, H1, I1', rx, q1⟩ => thn (hv pins s1 σ H1 _ I1' q1) fun w2 s2 ⟨y, H2, I2, ry, e, b, ks, ex, eb, q2⟩ => pairTrees_nil_walk ?_))
  subst ex
  obtain rfl : u = Value.ref b := rx
  refine wpAny_holding ?_
  show wpAny _ _ (forIn [(Value.ref b, w2)] PUnit.unit (fun (x : Value × Value) (_ : PUnit) => (do dictSet s.heap.objs.size x.1 x.2; pure (ForInStep.yield PUnit.unit) : Sem (ForInStep PUnit))) >>= _) _ _ _
  rw [List.forIn_cons]
  obtain ⟨z, hd, xs, rel, dd⟩ := dt_of I2.hok e
  have hx0 : xs = [] := by cases rel; rfl
  subst hx0
  refine wpAny_bind (wpAny_bind (wpAny_bind (wpAny_dictSet_heap (hsz := Nat.zero_le _) (show (tupleKind (mixKind X.prog X.w)).room X.A from Nat.lt_of_succ_lt hu) (key_of I2.hok eb) dd fun h' dd' hs => wpAny_pure ?_)))
  dsimp only
  rw [List.forIn_nil]
  refine wpAny_pure (wpAny_pure (wpAny_pure (wpAny_pure ?_)))
  obtain ⟨qo, es, ep, hq, h2, h3, h4, _, h5⟩ := dd'
  refine ⟨.ref s.heap.objs.size, upd H2 s.heap.objs.size (.dT [(ks, y)]), ?_, rfl, q2⟩
  refine d_write I2 (by rw [e]; exact True.intro) hs ⟨qo, hq⟩ ⟨show 1 ≤ sizeLine by decide, hd, _, (rel.put ks eb ry).keeps fun c ys ec => ?_, qo, es, ep, hq, h2, h3, h4, h5⟩
  rw [upd_ne (ne_of ec e (fun z => nomatch z))]
  exact ec
end
end L2

namespace PySem
open Sem (wp)
theorem lk_lri_len : typeLookup (.type "list_reverseiterator") "__len__" = pure none := by rw [typeLookup_type, builtinLookup_eq_fast]; kernel_rfl
theorem lk_lri_hint : typeLookup (.type "list_reverseiterator") "__length_hint__" = pure (some (.builtin "list_reverseiterator.__length_hint__")) := by rw [typeLookup_type, builtinLookup_eq_fast]; kernel_rfl
theorem sub_lri_self : isSubtype (.type "list_reverseiterator") (.type "list_reverseiterator") = pure true := by rw [isSubtype_type]; kernel_rfl
section
variable {prog : Program} {w : World} {A : Around} {E : Value → Shared → Prop} {s : Shared} {R : Result → Shared → Prop}
variable {I : Addr} {fp wr : List Addr} {G : Array GenState → Array GenState → Prop} {n : Nat} {P : Nat → Value → Prop} {St : Nat → Shared → Prop}
theorem rev_hint {Q : Bool → Shared → Prop} (hT : s.TypeIs (.ref I) "list_reverseiterator") (h : Q false s) : wpAny (model prog w) A (Builtin.List.listLengthHint (.ref I)) Q E s := by
  unfold Builtin.List.listLengthHint
  refine wpAny_bind (wpAny_specialOf hT lk_lri_len ?_)
  show wpAny _ A (specialOf (Value.ref I) (Str.ofString "__length_hint__") >>= _) _ _ _
  refine wpAny_bind (wpAny_specialOf hT lk_lri_hint ?_)
  have e : splitId "list_reverseiterator.__length_hint__" = some ("list_reverseiterator", "__length_hint__") := by decide +kernel
  simp only [e]
  refine wpAny_bind (wpAny_isInstance hT sub_lri_self ?_)
  refine wpAny_ite_split (fun z => absurd z (by decide)) (fun _ => ?_)
  refine wpAny_ite_split (fun _ => ?_) (fun z => absurd (by decide +kernel) z)
  refine wpAny_ite_split (fun z => absurd z (by decide +kernel)) (fun _ => ?_)
  exact wpAny_pure h
theorem extend_rev (W : WalksS prog w A.in1 I fp wr G n P St) (hT : ∀ i s, St i s → s.TypeIs (.ref I) "list_reverseiterator") (S : Addr) (res : Value) (c₀ : Nat) (hst : St 0 s) (hSf : S ∉ fp) (hI : I ∈ fp)
    (hS : s.heap.get? S = some { cls := .type "list", data := .seq #[] c₀ })
    (hR : ∀ s' acc' c', Moved (S :: wr) G s s' → s'.heap.get? S = some { cls := .type "list", dict := none, data := .seq acc' c', slots := #[] } → ItemsOf P acc' n → R (.ok (.ret res)) s') (hn : n ≤ sizeLine) :
    wpAny (model prog w) A.in1 (Builtin.List.listExtendWith (.ref S) (.ref I) res)
      (fun fin s' => match fin with | .done f => R (.ok f) s' | .again c' => c'.quiet = true ∧ codeAny (model prog w) A c' R s') (fun e s' => R (.error e) s') s := by
  have hSI : S ≠ I := fun e => hSf (e ▸ hI)
  unfold Builtin.List.listExtendWith
  refine wpAny_bind (wpAny_typeOf (hT 0 _ hst) ?_)
  have h1 : Builtin.List.listSameRef (.ref S) (.ref I) = false := by simp [Builtin.List.listSameRef, hSI]
  have h2 : (Value.type "list_reverseiterator" == Value.type "list") = false := by decide
  have h3 : (Value.type "list_reverseiterator" == Value.type "tuple") = false := by decide
  simp only [h1, h2, h3, Bool.or_false, Bool.false_eq_true, if_false]
  refine wpAny_bind (W.self 0 _ _ _ hst ?_)
  refine wpAny_bind (wpAny_holding (rev_hint (hT 0 _ hst) ?_))
  refine wpAny_ite_split (fun z => absurd z (by decide +kernel)) (fun _ => ?_)
  refine wpAny_pure ⟨plainId_quiet F.plain_extend_loop _, codeAny_extend_loopS W hn _ hSf _ n 0 _ _ _ rfl (Nat.zero_le _) hst hS (ItemsOf.nil P) fun s' acc' c' hm hS' hacc => ?_⟩
  exact hR s' acc' c' hm hS' hacc
theorem init_rev (W : WalksS prog w A.in1 I fp wr G n P St) (hT : ∀ i s, St i s → s.TypeIs (.ref I) "list_reverseiterator") (S : Addr) (hst : St 0 s) (hSf : S ∉ fp) (hI : I ∈ fp)
    (hS : s.heap.get? S = some { cls := .type "list", data := .seq #[] })
    (hR : ∀ s' acc' c', Moved (S :: wr) G s s' → s'.heap.get? S = some { cls := .type "list", dict := none, data := .seq acc' c', slots := #[] } → ItemsOf P acc' n → R (.ok (.ret .none)) s') (hn : n ≤ sizeLine) :
    wpAny (model prog w) A.in1 (Builtin.«list.__init__» ⟨[.ref S, .ref I], []⟩)
      (fun fin s' => match fin with | .done f => R (.ok f) s' | .again c' => c'.quiet = true ∧ codeAny (model prog w) A c' R s') (fun e s' => R (.error e) s') s := by
  show wpAny _ A.in1 (do let old ← Builtin.List.listItems (.ref S); Builtin.List.listUpdate (.ref S) (fun _ => #[]); letGo old.toList.reverse; Builtin.List.listExtendWith (.ref S) (.ref I) .none) _ _ s
  refine wpAny_bind ?_
  unfold Builtin.List.listItems
  refine wpAny_bind (wpAny_seqItems hS rfl (wpAny_pure ?_))
  show wpAny _ A.in1 (updateSeq S (fun _ => #[]) >>= fun _ => letGo (#[] : Array Value).toList.reverse >>= fun _ => Builtin.List.listExtendWith (.ref S) (.ref I) .none) _ _ s
  refine wpAny_bind (wpAny_updateSeq hS rfl ?_)
  have hS₂ := Heap.get?_update_self (Obj.mapSeq (fun _ => (#[] : Array Value))) hS rfl
  have oth : ∀ b o, b ≠ S → s.heap.get? b = some o → (s.heap.update S (Obj.mapSeq (fun _ => (#[] : Array Value)))).get? b = some o :=
    fun b o hb e => (Heap.get?_update_other _ _ (Ne.symm hb)).trans e
  refine wpAny_bind (wpAny_letGo ?_)
  refine extend_rev W hT S .none _ (W.frame 0 s _ s.toks hst (Nat.le_refl _) fun b hb o e => oth b o (fun h => hSf (h ▸ hb)) e) hSf hI hS₂ (fun s' acc' c' hm hS' hacc => ?_) hn
  exact hR s' acc' c' (Moved.trans W.gtrans ((Moved.refl W.grefl).then_heap (Nat.le_refl _) fun b o hb e => oth b o (fun h => hb (h ▸ List.mem_cons_self)) e) hm) hS' hacc
theorem call_list_rev {Q : Value → Shared → Prop} (W : WalksS prog w A.in1.in1 I fp wr G n P St) (hT : ∀ i s, St i s → s.TypeIs (.ref I) "list_reverseiterator") (hst : St 0 s) (hfp : ∀ b ∈ fp, b < s.heap.objs.size) (hI : I ∈ fp)
    (hQ : ∀ s' acc' c', Moved (s.heap.objs.size :: wr) G { s with heap := s.heap.push { cls := .type "list", data := .seq #[] } } s' →
      s'.heap.get? s.heap.objs.size = some { cls := .type "list", dict := none, data := .seq acc' c', slots := #[] } → ItemsOf P acc' n → Q (.ref s.heap.objs.size) s') (hn : n ≤ sizeLine) :
    wpAny (model prog w) A (call (.type "list") [.ref I]) Q E s := by
  have hSf : s.heap.objs.size ∉ fp := fun hm => Nat.lt_irrefl _ (hfp _ hm)
  refine callType_codes (Q₁ := fun obj s₁ => obj = .ref s.heap.objs.size ∧ s₁ = { s with heap := s.heap.push { cls := .type "list", data := .seq #[] } }) F.called_list (F.typeCall_list_1 _) F.entry_list_init
    (code_list_new _ ⟨rfl, rfl⟩) fun obj s₁ h₁ => ?_
  obtain ⟨rfl, rfl⟩ := h₁
  have hS : (s.heap.push { cls := .type "list", data := .seq #[] }).get? s.heap.objs.size = some { cls := .type "list", data := .seq #[] } := Heap.get?_push_size _ rfl
  refine ⟨⟨_, hS, rfl⟩, F.args_list_init_2 _ _, init_rev W hT _ (W.frame 0 s _ s.toks hst (Nat.le_refl _) fun b _ o e => Heap.get?_push_of_some _ e) hSf hI hS (fun s' acc' c' hm hS' hacc => ?_) hn⟩
  exact ⟨rfl, hQ s' acc' c' hm hS' hacc⟩
/-- list(reversed(xs)), the two calls -/
theorem list_reversed {l : Addr} {items : Array Value} {Q : Value → Shared → Prop} (hA : A.handled = none) (hl : s.heap.IsList l items) (hn : items.size ≤ sizeLine)
    (h : ∀ (h' : Heap) (tk c : Nat) (a : Addr), (∀ b o, s.heap.get? b = some o → h'.get? b = some o) → s.heap.objs.size ≤ a → h'.get? a = some { cls := .type "list", dict := none, data := .seq items.reverse c, slots := #[] } → Q (.ref a) { s with heap := h', toks := tk }) :
    wpAny (model prog w) A (call (.type "reversed") [.ref l]) (fun v s1 => wpAny (model prog w) A (call (.type "list") [v]) Q E s1) E s := by
  have hll : l < s.heap.objs.size := by obtain ⟨o, ho, _⟩ := id hl; exact Heap.lt_size ho
  refine call_reversed_list hl ?_
  have W := (Walks.listRev (prog := prog) (w := w) (A := A.in1.in1) hA s.heap.objs.size l (Nat.ne_of_lt hll) items).toS
  have hsz : (s.heap.push (revObj l ((items.size : Int) - 1))).objs.size = s.heap.objs.size + 1 := Heap.size_push _ _
  refine call_list_rev W (fun i s' st => st.2.1.typeIs) ⟨Nat.zero_le _, ⟨_, Heap.get?_push_size _ rfl, rfl, by simp [revObj]⟩, hl.at fun o e => Heap.get?_push_of_some _ e⟩ (fun b hb => ?_) (by simp) (fun s' acc' c' hm hS' hacc => ?_) hn
  · show b < (s.heap.push (revObj l ((items.size : Int) - 1))).objs.size
    rw [hsz]
    rcases List.mem_cons.mp hb with e | e
    · rw [e]; exact Nat.lt_succ_self _
    · rw [List.mem_singleton.mp e]; exact Nat.lt_succ_of_lt hll
  · obtain ⟨h', g', d', t', o'⟩ := s'
    obtain ⟨k1, k2, k3, k4, _⟩ := hm
    dsimp only at k1 k2 k3 k4 hS'
    subst k2 k3 k4
    have hrev : acc' = items.reverse := by
      refine Array.ext (by rw [hacc.1]; simp) fun j h1 h2 => ?_
      have := hacc.2 j _ (Array.getElem?_eq_getElem h1)
      rw [hacc.1] at h1
      rw [Array.getElem?_eq_getElem (by omega)] at this
      rw [Array.getElem_reverse]
      exact (Option.some.inj this).symm
    subst hrev
    refine h h' t' c' _ (fun b o e => ?_) (by show s.heap.objs.size ≤ (s.heap.push (revObj l ((items.size : Int) - 1))).objs.size; rw [hsz]; exact Nat.le_succ _) hS'
    have hb := Heap.lt_size e
    refine k1 b o (fun hm => ?_) (Heap.get?_push_of_some _ (Heap.get?_push_of_some _ e))
    rcases List.mem_cons.mp hm with z | z
    · rw [z] at hb
      have hb : (s.heap.push (revObj l ((items.size : Int) - 1))).objs.size < s.heap.objs.size := hb
      rw [hsz] at hb
      exact absurd hb (Nat.not_lt.mpr (Nat.le_succ _))
    · rw [List.mem_singleton.mp z] at hb
      exact absurd hb (Nat.lt_irrefl _)
end
end PySem

namespace L2
open PySem PySem.Spec PyProof.Rows PySem.W
/-- list(reversed(e)) -/
def tRevL (te : TE) : TE := fun σ H Q => te σ H fun x H1 => ∃ (a : Addr) (xs : List V), x = .ref a ∧ H1 a = some (.lst xs) ∧ ∀ l, H1 l = none → Q (.ref l) (upd H1 l (.lst xs.reverse))
section
variable {X : Cx}
theorem vals_rev : ∀ {xs : List V} {us : List Value}, Vals xs us → Vals xs.reverse us.reverse
  | _, _, .nil => .nil
  | _, _, .cons h t => by rw [List.reverse_cons, List.reverse_cons]; exact (vals_rev t).append (.cons h .nil)
theorem pe_listRev {e : Expr} {te : TE} {p p2 pos pos2 : Pos} (hd : X.A.handled = none) (hg1 : Gl X "list") (hm1 : X.mg "list" = none) (hg2 : Gl X "reversed") (hm2 : X.mg "reversed" = none) (he : PE X e te)
    (hs : starEach [.Call (.Name "reversed" p2) [e] [] pos2] X.env = [(false, eval (.Call (.Name "reversed" p2) [e] [] pos2) X.env)] := by rfl) (hs2 : starEach [e] X.env = [(false, eval e X.env)] := by rfl) :
    PE X (.Call (.Name "list" p) [.Call (.Name "reversed" p2) [e] [] pos2] [] pos) (tRevL te) := by
  intro pins s σ H Q I h
  refine Call_ (ld_blt I hg1 hm1 boot_list (PyProof.Rows.callWith_type1 ?_ hs rfl))
  rw [hs]
  show wpAny _ _ (spliced ((false, eval (.Call (.Name "reversed" p2) [e] [] pos2) X.env) :: [])) _ _ s
  refine Calls.spliced_cons (Call_ (ld_blt I hg2 hm2 boot_reversed (PyProof.Rows.callWith_type1 ?_ hs2 rfl)))
  rw [hs2]
  show wpAny _ _ (spliced ((false, eval e X.env) :: [])) _ _ s
  refine Calls.spliced_cons (thn (he pins s σ H _ I h) fun u s1 ⟨x, H1, I1, rx, a, xs, ex, ha, q⟩ => ?_)
  subst ex
  obtain rfl : u = Value.ref a := rx
  refine Calls.spliced_nil ?_
  obtain ⟨z, its, c, r, hl, e1⟩ := I1.lstM ha
  have hll := r.length
  refine wpAny_mono (list_reversed (Q := EP X pins σ Q) (E := X.xe) hd (show s1.heap.IsList a its.toArray from ⟨_, e1, rfl, _, rfl⟩) (by rw [List.size_toArray, ← hll]; exact z) fun h' tk c' l kp hle hg => ?_) (fun v s2 q2 => Calls.spliced_nil q2) fun _ _ e => e
  have hn : H1 l = none := I1.hok.fresh hle
  refine ⟨.ref l, upd H1 l (.lst xs.reverse), I1.laid (t' := tk) kp hle ⟨by rw [List.length_reverse]; exact z, its.reverse, c', vals_rev r, by rw [hg]; simp⟩, rfl, q l hn⟩
end
end L2

/-! != of nested tuples -/
namespace L2
open PySem PySem.Spec PyProof.Rows PySem.W
section
variable {X : Cx}
def rNeTG : R2 := fun x y H Q => ∃ (a b : Addr) (xs ys : List V) (e : Nat → Bool), x = .ref a ∧ y = .ref b ∧ H a = some (.tup xs) ∧ H b = some (.tup ys) ∧ (∀ (j : Nat) (x y : V), xs[j]? = some x → ys[j]? = some y → EqG H 8 x y (e j)) ∧ Q (.bl (!((List.range (min xs.length ys.length)).all e && xs.length == ys.length))) H
theorem op_neTG (hu : X.A.units + 64 < cLine) : OpR X (compareOp .NotEq) rNeTG := by
  intro pins s σ H x y v u Q I rx ry h
  obtain ⟨a, b, xs, ys, e, rfl, rfl, ha, hb, he, q⟩ := h
  cases rx
  cases ry
  obtain ⟨its, r1, p1, _⟩ := I.tuple (SqT.of ha)
  obtain ⟨its2, r2, p2, _⟩ := I.tuple (SqT.of hb)
  have l1 := r1.length
  have l2 := r2.length
  have hit := items_eq (s := s) (A := X.A.in1) (e := e) r1 r2 (fun j x y u v hx hy r1 r2 => (he j x y hx hy).at I r1 r2 (by show X.A.units + 1 + 8 < cLine; omega))
  refine SeqAt.RcNeAt.tuples (e := e) (show s.heap.IsTuple a its.toArray from p1) (show s.heap.IsTuple b its2.toArray from p2) (by omega) hit X.prog X.w X.xe _ ?_
  rw [List.size_toArray, List.size_toArray, ← l1, ← l2]
  exact ⟨.bl _, H, I, rfl, q⟩
end
end L2

/-! DRAFTS -/
namespace LW
open PySem L2
/-- a thing under other names -/
def ren (f : Int → Int) : T → T
  | .box n => .box (f n)
  | t => t
abbrev Row := Str × List T
/-! ### a walk is closed -/
section
variable {bs : List Box} {n : Int}
end
/-! ### rows in the heap, and when they are the same -/
def RowT (H : Hp) (r : Row) (a : Addr) : Prop := ∃ t vs, H a = some (.tup [.str r.1, .ref t]) ∧ H t = some (.tup vs) ∧ Ths H r.2 vs
def RowL (H : Hp) (r : Row) (a : Addr) : Prop := ∃ vs, H a = some (.lst (.str r.1 :: vs)) ∧ Ths H r.2 vs
theorem RowT.same {H H' : Hp} {r : Row} {a : Addr} (s : Same H H') (h : RowT H r a) : RowT H' r a := let ⟨t, vs, h1, h2, h3⟩ := h; ⟨t, vs, s _ _ h1, s _ _ h2, Ths.keep (Tups.of_same s) h3⟩
theorem RowL.same {H H' : Hp} {r : Row} {a : Addr} (s : Same H H') (h : RowL H r a) : RowL H' r a := let ⟨vs, h1, h3⟩ := h; ⟨vs, s _ _ h1, Ths.keep (Tups.of_same s) h3⟩
theorem isT_fun {H : Hp} {t t' : T} {v : V} (h : isT H t v) (h' : isT H t' v) : t = t' := by
  cases t with
  | non =>
    have h : v = .non := h
    subst h
    cases t' with
    | non => rfl
    | num i => cases (show V.non = V.int i from h')
    | box n => obtain ⟨a, e, _⟩ := h'; cases e
  | num i =>
    have h : v = .int i := h
    subst h
    cases t' with
    | non => cases (show V.int i = V.non from h')
    | num j => cases (show V.int i = V.int j from h'); rfl
    | box n => obtain ⟨a, e, _⟩ := h'; cases e
  | box n =>
    obtain ⟨a, rfl, e⟩ := h
    cases t' with
    | non => cases (show V.ref a = V.non from h')
    | num j => cases (show V.ref a = V.int j from h')
    | box m =>
      obtain ⟨b, e1, e2⟩ := h'
      cases e1
      rw [e] at e2
      cases e2; rfl
theorem Ths_fun {H : Hp} : ∀ {ts ts' : List T} {vs : List V}, Ths H ts vs → Ths H ts' vs → ts = ts'
  | _, _, _, .nil, .nil => rfl
  | _, _, _, .cons h t, .cons h' t' => by rw [isT_fun h h', Ths_fun t t']
theorem eqV_int (i j : Int) : eqV (.int i) (.int j) = decide (i = j) := by
  show (i == j) = _
  by_cases z : i = j <;> simp [z]
theorem eqG_T {H : Hp} {t t' : T} {v u : V} {n : Nat} (h : isT H t v) (h' : isT H t' u) : EqG H (n + 1) v u (decide (t = t')) := by
  cases t with
  | non =>
    have h : v = .non := h
    subst h
    cases t' with
    | non => have h' : u = .non := h'; subst h'; exact EqG.flat (n := n + 1) (v := .non) (u := .non) rfl rfl
    | num i => have h' : u = .int i := h'; subst h'; exact EqG.flat (n := n + 1) (v := .non) (u := .int i) rfl rfl
    | box m => obtain ⟨a, rfl, e⟩ := h'; exact EqG.ft e rfl
  | num i =>
    have h : v = .int i := h
    subst h
    cases t' with
    | non => have h' : u = .non := h'; subst h'; exact EqG.flat (n := n + 1) (v := .int i) (u := .non) rfl rfl
    | num j =>
      have h' : u = .int j := h'
      subst h'
      have g := EqG.flat (H := H) (n := n + 1) (v := .int i) (u := .int j) rfl rfl
      rw [eqV_int] at g
      rw [show decide (T.num i = T.num j) = decide (i = j) by simp]
      exact g
    | box m => obtain ⟨a, rfl, e⟩ := h'; exact EqG.ft e rfl
  | box k =>
    obtain ⟨a, rfl, e⟩ := h
    cases t' with
    | non => have h' : u = .non := h'; subst h'; exact EqG.tf e rfl
    | num j => have h' : u = .int j := h'; subst h'; exact EqG.tf e rfl
    | box m =>
      obtain ⟨b, rfl, e2⟩ := h'
      by_cases ab : a = b
      · subst ab
        rw [e] at e2
        cases e2
        rw [decide_eq_true rfl]
        exact EqG.same rfl
      · have g := EqG.tup (n := n) (e := fun j => if j = 0 then true else decide (k = m)) ab e e2 (fun j x y hx hy => by
          rcases j with _ | _ | j
          · cases hx; cases hy
            exact EqG.flat (n := n) (v := .str "box") (u := .str "box") rfl rfl |> fun g => by simpa [eqV] using g
          · cases hx; cases hy
            have g := EqG.flat (H := H) (n := n) (v := .int k) (u := .int m) rfl rfl
            rw [eqV_int] at g
            exact g
          · simp at hx)
        simpa [List.range, List.range.loop] using g
/-- two rows of things -/
theorem all_range {α : Type} [DecidableEq α] {xs ys : List α} {e : Nat → Bool} (he : ∀ (j : Nat) (x y : α), xs[j]? = some x → ys[j]? = some y → e j = decide (x = y)) : ((List.range (min xs.length ys.length)).all e && xs.length == ys.length) = decide (xs = ys) := by
  by_cases z : xs.length = ys.length
  · rw [show (xs.length == ys.length) = true by simp [z], Bool.and_true, ← z, Nat.min_self]
    rw [Bool.eq_iff_iff, List.all_eq_true, decide_eq_true_iff]
    constructor
    · intro h
      refine List.ext_getElem z fun j h1 h2 => ?_
      have := h j (List.mem_range.mpr h1)
      rw [he j _ _ (List.getElem?_eq_getElem h1) (List.getElem?_eq_getElem h2)] at this
      exact of_decide_eq_true this
    · rintro rfl j hj
      have hj := List.mem_range.mp hj
      rw [he j _ _ (List.getElem?_eq_getElem hj) (List.getElem?_eq_getElem hj)]
      exact decide_eq_true rfl
  · rw [show (xs.length == ys.length) = false by simp [z], Bool.and_false]
    exact (decide_eq_false fun e => z (by rw [e])).symm
/-- what a list of values says of things: by places -/
def eT (ts ts' : List T) (j : Nat) : Bool := match ts[j]?, ts'[j]? with
  | some t, some t' => decide (t = t')
  | _, _ => false
theorem eT_at {ts ts' : List T} (j : Nat) (t t' : T) (h : ts[j]? = some t) (h' : ts'[j]? = some t') : eT ts ts' j = decide (t = t') := by unfold eT; rw [h, h']
theorem eqG_ths {H : Hp} {ts ts' : List T} {vs us : List V} {n : Nat} (h : Ths H ts vs) (h' : Ths H ts' us) : ∀ (j : Nat) (x y : V), vs[j]? = some x → us[j]? = some y → EqG H (n + 1) x y (eT ts ts' j) := fun j x y hx hy => by
  obtain ⟨t, ht, tx⟩ := pr_getR h hx
  obtain ⟨t', ht', ty⟩ := pr_getR h' hy
  rw [eT_at j t t' ht ht']
  exact eqG_T tx ty
end LW

/-! DRAFTS: what is promised -/
namespace LW
open PySem L2
def spRenamedD : Sp := fun vs H Q _ => ∃ (v : V) (d : Addr) (t : T) (f : Int → Int), vs = [v, .ref d] ∧ isT H t v ∧ (∀ n, t = .box n → DGet H d (.int n) (some (.int (f n)))) ∧ ∀ v' H', Same H H' → isT H' (ren f t) v' → Q v' H'
def spRowOf (C : Addr) : Sp := fun vs H Q _ => ∃ (p d : Addr) (A : HA) (S : HS) (i : Nat) (b : Box) (f : Int → Int), vs = [.ref p, .int b.name, .ref d] ∧ HouseAt C H p A S ∧ S.boxes[i]? = some b ∧ b.row.length ≤ 900 ∧
  (∀ n, .box n ∈ b.row → ∀ H', Same H H' → DGet H' d (.int n) (some (.int (f n)))) ∧ ∀ a H', Same H H' → H a = none → RowT H' (b.kind, b.row.map (ren f)) a → Q (.ref a) H'
end LW

/-! PAIRS that are walked together -/
namespace LW
open PySem L2
abbrev Pr := Int × Int
def boxOf (bs : List Box) (n : Int) : Option Box := bs.find? (fun b => decide (b.name = n))
theorem boxOf_at {bs : List Box} {i : Nat} {b : Box} (nd : (bs.map (·.name)).Nodup) (h : bs[i]? = some b) : boxOf bs b.name = some b := by
  unfold boxOf
  have hm := List.mem_of_getElem? h
  clear h
  induction bs with
  | nil => cases hm
  | cons c r ih =>
    rw [List.find?_cons]
    have nd' := List.nodup_cons.mp (show (c.name :: r.map (·.name)).Nodup from nd)
    by_cases e : c.name = b.name
    · rw [decide_eq_true e]
      rcases List.mem_cons.mp hm with z | z
      · rw [z]
      · exact absurd (List.mem_map.mpr ⟨b, z, e.symm⟩) nd'.1
    · rw [decide_eq_false e]
      rcases List.mem_cons.mp hm with z | z
      · exact absurd (by rw [z]) e
      · exact ih nd'.2 z
def rowB (bs : List Box) (n : Int) : List T := match boxOf bs n with
  | some b => b.row
  | none => []
/-- how a box looks, names left out -/
def lk (bs : List Box) (n : Int) : Row := match boxOf bs n with
  | some b => (b.kind, b.row.map (ren fun _ => 0))
  | none => ("", [])
theorem lk_at {bs : List Box} {i : Nat} {b : Box} (nd : (bs.map (·.name)).Nodup) (h : bs[i]? = some b) : lk bs b.name = (b.kind, b.row.map (ren fun _ => 0)) := by unfold lk; rw [boxOf_at nd h]
theorem rowB_at {bs : List Box} {i : Nat} {b : Box} (nd : (bs.map (·.name)).Nodup) (h : bs[i]? = some b) : rowB bs b.name = b.row := by unfold rowB; rw [boxOf_at nd h]
/-- the steps that two rows take together -/
def stepsAt (k : Nat) : List T → List T → List (Nat × Pr)
  | .box x :: ts, .box y :: us => (k, (x, y)) :: stepsAt (k + 1) ts us
  | _ :: ts, _ :: us => stepsAt (k + 1) ts us
  | _, _ => []
theorem stepsAt_snoc : ∀ (ts us : List T) (t u : T) (k : Nat), ts.length = us.length → stepsAt k (ts ++ [t]) (us ++ [u]) = stepsAt k ts us ++ stepsAt (k + ts.length) [t] [u]
  | [], [], t, u, k, _ => by simp [stepsAt]
  | [], _ :: _, _, _, _, h => by simp at h
  | _ :: _, [], _, _, _, h => by simp at h
  | x :: ts, y :: us, t, u, k, h => by
    have ih := stepsAt_snoc ts us t u (k + 1) (by simpa using h)
    have e : k + 1 + ts.length = k + (x :: ts).length := by simp; omega
    cases x <;> cases y <;> simp only [List.cons_append, stepsAt, ih, e]
structure En where
  pr : Pr
  fr : Option (Pr × Nat)
  rd : List Nat
def addP (es : List En) (e : En) (st : List (Nat × Pr)) : List En := st.foldl (fun acc s => if s.2 ∈ acc.map (·.pr) then acc else acc ++ [⟨s.2, some (e.pr, s.1), e.rd ++ [s.1]⟩]) es
theorem addP_snoc (es : List En) (e : En) (st : List (Nat × Pr)) (s : Nat × Pr) : addP es e (st ++ [s]) = if s.2 ∈ (addP es e st).map (·.pr) then addP es e st else addP es e st ++ [⟨s.2, some (e.pr, s.1), e.rd ++ [s.1]⟩] := by
  unfold addP; rw [List.foldl_append]; rfl
def stepsOf (bs : List Box) (p : Pr) : List (Nat × Pr) := stepsAt 0 (rowB bs p.1) (rowB bs p.2)
def apRun (bs : List Box) : Nat → List En → Nat → Option (List Nat)
  | 0, _, _ => none
  | f + 1, es, k => match es[k]? with
    | none => none
    | some e => if lk bs e.pr.1 = lk bs e.pr.2 then apRun bs f (addP es e (stepsOf bs e.pr)) (k + 1) else some e.rd
theorem apRun_none {bs : List Box} {f : Nat} {es : List En} {k : Nat} (h : es[k]? = none) : apRun bs f es k = none := by
  cases f with
  | zero => rfl
  | succ f => unfold apRun; rw [h]
theorem apRun_some {bs : List Box} {f : Nat} {es : List En} {k : Nat} {e : En} (h : es[k]? = some e) : apRun bs (f + 1) es k = if lk bs e.pr.1 = lk bs e.pr.2 then apRun bs f (addP es e (stepsOf bs e.pr)) (k + 1) else some e.rd := by
  show (match es[k]? with | none => none | some e => _) = _
  rw [h]
/-! ### what holds of the entries -/
structure EsOk (N : List Int) (es : List En) : Prop where
  nd : (es.map (·.pr)).Nodup
  mem : ∀ e ∈ es, e.pr.1 ∈ N ∧ e.pr.2 ∈ N
  rd : ∀ (j : Nat) (e : En), es[j]? = some e → (e.fr = none ∧ e.rd = []) ∨ ∃ (p : Pr) (k i : Nat) (e' : En), e.fr = some (p, k) ∧ i < j ∧ es[i]? = some e' ∧ e'.pr = p ∧ e.rd = e'.rd ++ [k]
theorem EsOk.start {N : List Int} {a b : Int} (ha : a ∈ N) (hb : b ∈ N) : EsOk N [⟨(a, b), none, []⟩] where
  nd := by simp
  mem := fun e he => by rw [List.mem_singleton.mp he]; exact ⟨ha, hb⟩
  rd := fun j e h => by
    rcases j with _ | j
    · cases h; exact .inl ⟨rfl, rfl⟩
    · simp at h
theorem EsOk.snoc {N : List Int} {es : List En} {e : En} {s : Nat × Pr} {i : Nat} (h : EsOk N es) (hi : es[i]? = some e) (hn : s.2 ∉ es.map (·.pr)) (h1 : s.2.1 ∈ N) (h2 : s.2.2 ∈ N) : EsOk N (es ++ [⟨s.2, some (e.pr, s.1), e.rd ++ [s.1]⟩]) where
  nd := by
    rw [List.map_append, List.nodup_append]
    exact ⟨h.nd, by simp, fun x hx y hy q => hn (by rw [List.map_singleton, List.mem_singleton] at hy; rw [← show x = s.2 from q.trans hy]; exact hx)⟩
  mem := fun x hx => by
    rcases List.mem_append.mp hx with z | z
    · exact h.mem x z
    · rw [List.mem_singleton.mp z]; exact ⟨h1, h2⟩
  rd := fun j x hx => by
    have hil := (List.getElem?_eq_some_iff.mp hi).1
    by_cases hj : j < es.length
    · rw [List.getElem?_append_left hj] at hx
      rcases h.rd j x hx with z | ⟨p, k, i', e', z1, z2, z3, z4, z5⟩
      · exact .inl z
      · exact .inr ⟨p, k, i', e', z1, z2, by rw [List.getElem?_append_left (by omega)]; exact z3, z4, z5⟩
    · rw [List.getElem?_append_right (by omega)] at hx
      have h0 : j - es.length = 0 := by
        rcases Nat.eq_zero_or_pos (j - es.length) with z | z
        · exact z
        · rw [List.getElem?_eq_none (by simp; omega)] at hx; cases hx
      rw [h0] at hx
      cases hx
      exact .inr ⟨e.pr, s.1, i, e, rfl, by omega, by rw [List.getElem?_append_left hil]; exact hi, rfl, rfl⟩
theorem nodup_lenA {α : Type} [DecidableEq α] : ∀ {l m : List α}, l.Nodup → (∀ x ∈ l, x ∈ m) → l.length ≤ m.length
  | [], _, _, _ => Nat.zero_le _
  | x :: l, m, nd, h => by
    obtain ⟨n1, n2⟩ := List.nodup_cons.mp nd
    have hx := h x List.mem_cons_self
    have := nodup_lenA (l := l) (m := m.erase x) n2 fun y hy => (List.mem_erase_of_ne (fun e => n1 (by rw [← e]; exact hy))).mpr (h y (List.mem_cons_of_mem _ hy))
    rw [List.length_erase_of_mem hx] at this
    have := List.length_pos_of_mem hx
    rw [List.length_cons]; omega
theorem EsOk.len {N : List Int} {es : List En} (h : EsOk N es) : es.length ≤ N.length * N.length := by
  have := nodup_lenA (l := es.map (·.pr)) (m := N.flatMap fun a => N.map fun b => (a, b)) h.nd fun x hx => by
    obtain ⟨e, he, rfl⟩ := List.mem_map.mp hx
    obtain ⟨h1, h2⟩ := h.mem e he
    exact List.mem_flatMap.mpr ⟨e.pr.1, h1, List.mem_map.mpr ⟨e.pr.2, h2, rfl⟩⟩
  rw [List.length_map, List.length_flatMap] at this
  have e : ∀ M : List Int, (M.map fun _ => N.length).sum = M.length * N.length := fun M => by
    induction M with
    | nil => simp
    | cons x r ih => rw [List.map_cons, List.sum_cons, ih, List.length_cons, Nat.add_mul]; omega
  have : es.length ≤ (N.map fun _ => N.length).sum := by simpa using this
  rw [e] at this
  exact this
end LW

/-! THE PROGRAM's defs: drafts -/
namespace LW
open PySem L2
section
variable {P : Program} {w : World} {K : PySem.W.Frag} {mg : Str → Option Value} {base : Heap} {C : Addr}
theorem ok_f_renamed_d {n : Nat} {f : Addr} {fd : FuncData} (F : Fun K "renamed" "renamed" s_f_renamed f fd) (T : TX K mg C) (D_box_name : DefOk P w K mg base n "box_name" ["thing"] (spBoxName) [[]])
    (D_box_thing : DefOk P w K mg base n "box_thing" ["name"] (spBoxThing) [[]]) :
    FnOk P w K mg base CX0 (n + 1) f fd ["thing", "new_names"] (spRenamedD) := by
  obtain ⟨f_box_name, fd_box_name, n_box_name, k_box_name, J_box_name, c_box_name⟩ := D_box_name
  obtain ⟨f_box_thing, fd_box_thing, n_box_thing, k_box_thing, J_box_thing, c_box_thing⟩ := D_box_thing
  refine F.ok sc_f_renamed (fun vs H Q E h => ?_) (fun cdv A outer s H vs Q E hr h => ?_)
  · obtain ⟨v, d, t, f', rfl, _⟩ := h
    rfl
  · obtain ⟨v, d, t, f', rfl, tv, hg, k⟩ := h
    have hu := hu_of hr
    refine ⟨_, (pss_cons (ps_set (i := 2) sc_f_renamed.nd rfl (Or.inl rfl) (pe_call J_box_name hr (by rfl) n_box_name k_box_name (c_box_name [] (by simp)) .nil pass0 (pa_cons (pv 0) pa_nil)))
      (pss_cons (ps_if (pt_cmp (pc_isN (pv 2))) (pss_one (ps_ret (pv 0))) pss_nil)
      (pss_one (ps_ret (pe_call J_box_thing hr (by rfl) n_box_thing k_box_thing (c_box_thing [] (by simp)) .nil pass0 (pa_cons (pe_dget hu (pv 1) (pv 2) (fun _ _ => rfl)) pa_nil)))))), ?_⟩
    refine ⟨_, rfl, v, t, rfl, tv, ?_⟩
    cases t with
    | non => exact ⟨_, rfl, _, rfl, iteT ⟨_, rfl, k _ _ (Same.refl _) tv⟩⟩
    | num i => exact ⟨_, rfl, _, rfl, iteT ⟨_, rfl, k _ _ (Same.refl _) tv⟩⟩
    | box n => exact ⟨_, rfl, _, rfl, iteF ⟨_, rfl, _, rfl, d, _, rfl, hg n rfl, f' n, rfl, fun a ha => k _ _ (Same.new ha) ⟨a, rfl, upd_same⟩⟩⟩
theorem bs_f_row_of_0 : BlkScope (defScope s_f_row_of) ["house", "name", "new_names", "things"] (compScope ((asgVal (stAt (defBody s_f_row_of) 0)))) "thing" ["new_names"] [2] :=
  ⟨by rfl, by decide +kernel, by decide +kernel, by decide +kernel, by rfl, by decide +kernel, by rfl, by decide +kernel⟩
theorem ok_f_row_of {n : Nat} {f : Addr} {fd : FuncData} (F : Fun K "row_of" "row_of" s_f_row_of f fd) (T : TX K mg C) (D_things_in : DefOk P w K mg base n "things_in" ["house", "name"] (spThings C) [[]])
    (D_renamed_d : DefOk P w K mg base n "renamed" ["thing", "new_names"] (spRenamedD) [[]])
    (M_kind : MethOk P w K mg base C n "kind" ["self", "name"] (spKind C) [[]]) :
    FnOk P w K mg base CX0 (n + 1) f fd ["house", "name", "new_names"] (spRowOf C) := by
  obtain ⟨f_things_in, fd_things_in, n_things_in, k_things_in, J_things_in, c_things_in⟩ := D_things_in
  obtain ⟨f_renamed_d, fd_renamed_d, n_renamed_d, k_renamed_d, J_renamed_d, c_renamed_d⟩ := D_renamed_d
  obtain ⟨f_kind, fd_kind, m_kind, G_kind, b_kind⟩ := M_kind
  refine F.ok sc_f_row_of (fun vs H Q E h => ?_) (fun cdv A outer s H vs Q E hr h => ?_)
  · obtain ⟨p, d, A', S, i, b, f', rfl, _⟩ := h
    rfl
  · obtain ⟨p, d, A', S, i, b, f', rfl, hh, hb, hrow, hg, k⟩ := h
    have hu := hu_of hr
    refine ⟨_, (pss_cons (ps_setComp (i := 3) bs_f_row_of_0 rfl sc_f_row_of.nd rfl (Or.inl rfl) (pi_list (pe_call J_things_in hr (by rfl) n_things_in k_things_in (c_things_in [] (by simp)) .nil pass0 (pa_cons (pv 0) (pa_cons (pv 1) pa_nil)))) (fun _ _ _ _ => pifs_nil) (fun _ _ _ _ => (pe_call J_renamed_d hr (by rfl) n_renamed_d k_renamed_d (c_renamed_d [] (by simp)) .nil pass0 (pa_cons (pv 0) (pa_cons (pv 1) pa_nil)))))
      (pss_one (ps_ret (pe_tup (pa_cons (pe_meth (pv 0) T.cl m_kind G_kind hr (b_kind [] (by simp)) .nil pass0 (pa_cons (pv 1) pa_nil)) (pa_cons (pe_callTy call_tuple_of (by rfl) T.g_tuple PyProof.Rows.boot_tuple (pa_cons (pv 3) pa_nil)) pa_nil)))))), ?_⟩
    refine ⟨_, rfl, _, rfl, p, A', S, i, b, rfl, hh, hb, hrow, fun l H1 s1 hl ht => ?_⟩
    obtain ⟨vs, hv, pr⟩ := ht
    have len := pr_len pr
    refine ⟨l, rfl, ⟨_, SqL.of hv⟩, ?_⟩
    refine comp_list (xs := vs) (fun j ys H' => Same H1 H' ∧ Ths H' ((b.row.take j).map (ren f')) ys) ⟨Same.refl _, .nil⟩ ?_ (Nat.le_trans (by omega) (show 900 ≤ sizeLine by decide)) ?_ ?_ ?_
    · rintro j ys H' ⟨_, h⟩
      rw [← pr_len h, List.length_map, List.length_take]; omega
    · rintro j ys H' _ ⟨s, _⟩
      exact SqL.of (s _ _ hv)
    · rintro j x ys H' hx ⟨s, h⟩
      obtain ⟨t, ht, tv⟩ := pr_getR pr hx
      dsimp only [tNoIf]
      refine iteT ⟨_, rfl, _, rfl, x, d, t, f', rfl, tv.keep (Tups.of_same s), fun n' e => hg n' (by rw [← e]; exact List.mem_of_getElem? ht) H' (s1.trans s), fun v' H2 s2 tv' => ⟨s.trans s2, ?_⟩⟩
      rw [take_sn ht, List.map_append]
      exact pr_app (Ths.keep (Tups.of_same s2) h) (.cons tv' .nil)
    rintro ys H2 ⟨s2, h⟩ l2 hl2
    rw [← len, List.take_length] at h
    have s3 := (s1.trans s2).trans (Same.new (o := .lst ys) hl2)
    have hh3 := hh.same s3
    refine ⟨_, rfl, p, A'.dx, _, rfl, hh3.ob, hf_none (by decide +kernel), _, rfl, p, A', S, i, b, rfl, hh3, hb, _, rfl, l2, ys, rfl, .inl ⟨SqL.of upd_same, fun t ht => ?_⟩⟩
    refine ⟨by show 2 ≤ sizeLine; decide, fun a ha => k a _ (s3.trans ((Same.new ht).trans (Same.new ha))) ((s3.trans (Same.new ht)).free ha) ⟨t, ys, upd_same, kp_n upd_same ha, ?_⟩⟩
    exact Ths.keep (((Tups.new hl2).trans (Tups.new ht)).trans (Tups.new ha)) h
end
end LW


/-! THE PROGRAM's defs: how boxes look, steps, roads -/
namespace LW
open PySem L2
def LooksAt (H : Hp) (d : Addr) (bs : List Box) : Prop := ∃ as : List Addr, H d = some (.dK (fieldsD bs as)) ∧ Paired (fun b a => RowT H (b.kind, b.row.map (ren fun _ => 0)) a) bs as
theorem LooksAt.same {H H' : Hp} {d : Addr} {bs : List Box} (s : Same H H') (h : LooksAt H d bs) : LooksAt H' d bs := let ⟨as, h1, h2⟩ := h; ⟨as, s _ _ h1, pr_imp (fun _ _ _ _ z => z.same s) h2⟩
def zeroD (ns : List Int) : List (Key × V) := ns.map fun n => ((Sum.inl n : Key), V.int 0)
theorem zeroD_val {ns : List Int} {n : Int} (h : n ∈ ns) : valV (zeroD ns) (Sum.inl n) = some (.int 0) := by
  induction ns with
  | nil => cases h
  | cons m r ih =>
    by_cases e : m = n
    · subst e; exact valV_pos rfl
    · rw [show zeroD (m :: r) = ((Sum.inl m : Key), V.int 0) :: zeroD r from rfl, valV_neg (fun z => e (Sum.inl.inj z))]
      rcases List.mem_cons.mp h with z | z
      · exact absurd z.symm e
      · exact ih z
def StepAt (H : Hp) (s : Nat × Pr) (a : Addr) : Prop := ∃ q, H a = some (.tup [.int (s.1 : Nat), .ref q]) ∧ H q = some (.tup [.int s.2.1, .int s.2.2])
theorem StepAt.same {H H' : Hp} {s : Nat × Pr} {a : Addr} (z : Same H H') (h : StepAt H s a) : StepAt H' s a := let ⟨q, h1, h2⟩ := h; ⟨q, z _ _ h1, z _ _ h2⟩
def spLooks (C : Addr) : Sp := fun vs H Q _ => ∃ (p : Addr) (A : HA) (S : HS), vs = [.ref p] ∧ HouseAt C H p A S ∧ S.boxes.length < 64 ∧ Closed S.boxes ∧ ∀ d H', Same H H' → H d = none → LooksAt H' d S.boxes → Q (.ref d) H'
def spSteps (C : Addr) : Sp := fun vs H Q _ => ∃ (p pp : Addr) (A : HA) (S : HS) (i j : Nat) (b c : Box), vs = [.ref p, .ref pp] ∧ HouseAt C H p A S ∧ H pp = some (.tup [.int b.name, .int c.name]) ∧ S.boxes[i]? = some b ∧ S.boxes[j]? = some c ∧ b.row.length ≤ 900 ∧
  b.row.map (ren fun _ => 0) = c.row.map (ren fun _ => 0) ∧ ∀ l as H', Same H H' → H l = none → H' l = some (.lst (as.map V.ref)) → Paired (StepAt H') (stepsAt 0 b.row c.row) as → Q (.ref l) H'
section
variable {P : Program} {w : World} {K : PySem.W.Frag} {mg : Str → Option Value} {base : Heap} {C : Addr}
theorem bs_f_looks_of_0 : BlkScope (defScope s_f_looks_of) ["house", "names", "left_out"] (compScope ((callArg 0 (asgVal (stAt (defBody s_f_looks_of) 1))))) "name" [] [] :=
  ⟨by rfl, by decide +kernel, by decide +kernel, by decide +kernel, by rfl, by decide +kernel, by rfl, by decide +kernel⟩
theorem bs_f_looks_of_1 : BlkScope (defScope s_f_looks_of) ["house", "names", "left_out"] (compScope ((callArg 0 (retVal (stAt (defBody s_f_looks_of) 2))))) "name" ["house", "left_out"] [0, 2] :=
  ⟨by rfl, by decide +kernel, by decide +kernel, by decide +kernel, by rfl, by decide +kernel, by rfl, by decide +kernel⟩
theorem ok_f_looks_of {n : Nat} {f : Addr} {fd : FuncData} (F : Fun K "looks_of" "looks_of" s_f_looks_of f fd) (T : TX K mg C) (gdict : mg "dict" = none) (M_names : MethOk P w K mg base C n "names" ["self"] (spNames C) [[]])
    (D_row_of : DefOk P w K mg base n "row_of" ["house", "name", "new_names"] (spRowOf C) [[]]) :
    FnOk P w K mg base CX0 (n + 1) f fd ["house"] (spLooks C) := by
  obtain ⟨f_names, fd_names, m_names, G_names, b_names⟩ := M_names
  obtain ⟨f_row_of, fd_row_of, n_row_of, k_row_of, J_row_of, c_row_of⟩ := D_row_of
  refine F.ok sc_f_looks_of (fun vs H Q E h => ?_) (fun cdv A outer s H vs Q E hr h => ?_)
  · obtain ⟨p, A', S, rfl, _⟩ := h
    rfl
  · obtain ⟨p, A', S, rfl, hh, h64, hcl, k⟩ := h
    have hu := hu_of hr
    refine ⟨_, (pss_cons (ps_set (i := 1) sc_f_looks_of.nd rfl (Or.inl rfl) (pe_meth0 (pv 0) T.cl m_names G_names hr (b_names [] (by simp)) .nil pass0))
      (pss_cons (ps_set (i := 2) sc_f_looks_of.nd rfl (Or.inr rfl) (pe_callTy (call_dictP hr.hd) (by rfl) gdict PyProof.Rows.boot_dict (pa_cons (pe_comp bs_f_looks_of_0 rfl (pi_list (pv 1)) (fun _ _ _ _ => pifs_nil) (fun _ _ _ _ => (pe_tup (pa_cons (pv 0) (pa_cons pe_int pa_nil))))) pa_nil)))
      (pss_one (ps_ret (pe_callTy (call_dictP hr.hd) (by rfl) gdict PyProof.Rows.boot_dict (pa_cons (pe_comp bs_f_looks_of_1 rfl (pi_list (pv 1)) (fun _ _ _ _ => pifs_nil) (fun _ _ _ _ => (pe_tup (pa_cons (pv 0) (pa_cons (pe_call J_row_of hr (by rfl) n_row_of k_row_of (c_row_of [] (by simp)) .nil pass0 (pa_cons (pv 1) (pa_cons (pv 0) (pa_cons (pv 2) pa_nil)))) pa_nil))))) pa_nil)))))), ?_⟩
    have nl : (names S).length = S.boxes.length := by simp [names]
    refine ⟨_, rfl, p, A'.dx, _, rfl, hh.ob, hf_none (by decide +kernel), p, A', S, rfl, hh, h64, fun l hl => ?_⟩
    have s1 : Same H (upd H l (.lst ((names S).map V.int))) := Same.new hl
    have hL : (upd H l (.lst ((names S).map V.int))) l = some (.lst ((names S).map V.int)) := upd_same
    generalize upd H l (.lst ((names S).map V.int)) = H1 at s1 hL ⊢
    -- left_out
    refine ⟨_, rfl, l, rfl, ⟨_, SqL.of hL⟩, ?_⟩
    refine comp_list (xs := (names S).map V.int) (fun i ys H' => Same H1 H' ∧ ∃ as : List Addr, ys = as.map V.ref ∧ Paired (fun (kv : Key × V) (a : Addr) => H' a = some (.tup [kV kv.1, kv.2])) ((zeroD (names S)).take i) as) ⟨Same.refl _, [], rfl, .nil⟩ ?_ (by rw [List.length_map]; exact Nat.le_trans (by omega) (show 900 ≤ sizeLine by decide)) ?_ ?_ ?_
    · rintro i ys H' ⟨_, as, rfl, h⟩
      rw [List.length_map, ← pr_len h, List.length_take]; omega
    · rintro i ys H' _ ⟨s, _⟩
      exact SqL.of (s _ _ hL)
    · rintro i x ys H' hx ⟨s, as, rfl, h⟩
      obtain ⟨m, hm, rfl⟩ : ∃ m, (names S)[i]? = some m ∧ x = .int m := by
        rw [List.getElem?_map] at hx
        cases e : (names S)[i]? with
        | none => rw [e] at hx; cases hx
        | some m => rw [e] at hx; exact ⟨m, rfl, (Option.some.inj hx).symm⟩
      dsimp only [tNoIf]
      refine iteT ⟨_, rfl, by show 2 ≤ sizeLine; decide, fun tp htp => ⟨s.trans (Same.new htp), as ++ [tp], by simp, ?_⟩⟩
      rw [take_sn (show (zeroD (names S))[i]? = some (Sum.inl m, V.int 0) by unfold zeroD; rw [List.getElem?_map, hm]; rfl)]
      exact pr_app (pr_imp (fun kv a _ _ z => kp_n z htp) h) (.cons upd_same .nil)
    rintro ys H2 ⟨s2, as, rfl, h⟩ l2 hl2
    rw [List.length_map, show (names S).length = (zeroD (names S)).length by simp [zeroD], List.take_length] at h
    refine ⟨l2, as, zeroD (names S), rfl, upd_same, pr_imp (fun kv a _ _ z => kp_n z hl2) h, by rw [show (zeroD (names S)).map (·.1) = (names S).map fun n => (Sum.inl n : Key) by simp [zeroD, Function.comp_def]]; exact nd_keys hh.nm, fun d hd => ?_⟩
    have s3 := ((s1.trans s2).trans (Same.new (o := .lst (as.map V.ref)) hl2)).trans (Same.new (o := .dK (zeroD (names S))) hd)
    have hd3 : (upd (upd H2 l2 (.lst (as.map V.ref))) d (.dK (zeroD (names S)))) d = some (.dK (zeroD (names S))) := upd_same
    have hL3 : (upd (upd H2 l2 (.lst (as.map V.ref))) d (.dK (zeroD (names S)))) l = some (.lst ((names S).map V.int)) := kp_n (kp_n (s2 _ _ hL) hl2) hd
    generalize upd (upd H2 l2 (.lst (as.map V.ref))) d (.dK (zeroD (names S))) = H3 at s3 hd3 hL3 ⊢
    -- the rows
    refine ⟨_, rfl, l, rfl, ⟨_, SqL.of hL3⟩, ?_⟩
    refine comp_list (xs := (names S).map V.int) (fun j ys H' => Same H3 H' ∧ ∃ ts rs : List Addr, ys = ts.map V.ref ∧ Paired (fun (kv : Key × V) (a : Addr) => H' a = some (.tup [kV kv.1, kv.2])) (fieldsD (S.boxes.take j) rs) ts ∧ Paired (fun b a => RowT H' (b.kind, b.row.map (ren fun _ => 0)) a) (S.boxes.take j) rs) ⟨Same.refl _, [], [], rfl, .nil, .nil⟩ ?_ (by rw [List.length_map]; exact Nat.le_trans (by omega) (show 900 ≤ sizeLine by decide)) ?_ ?_ ?_
    · rintro j ys H' ⟨_, ts, rs, rfl, h, h'⟩
      have e1 := pr_len h
      have e2 := pr_len h'
      rw [fieldsD, List.length_map, List.length_zip, ← e2, Nat.min_self, List.length_take] at e1
      rw [List.length_map, ← e1]; omega
    · rintro j ys H' _ ⟨s, _⟩
      exact SqL.of (s _ _ hL3)
    · rintro j x ys H' hx ⟨s, ts, rs, rfl, h, h'⟩
      obtain ⟨b, hb, rfl⟩ : ∃ b, S.boxes[j]? = some b ∧ x = .int b.name := by
        rw [List.getElem?_map] at hx
        unfold names at hx
        rw [List.getElem?_map] at hx
        cases e : S.boxes[j]? with
        | none => rw [e] at hx; cases hx
        | some b => rw [e] at hx; exact ⟨b, rfl, (Option.some.inj hx).symm⟩
      have hbm := List.mem_of_getElem? hb
      dsimp only [tNoIf]
      refine iteT ⟨_, rfl, _, rfl, _, rfl, _, rfl, p, d, A', S, j, b, fun _ => 0, rfl, hh.same (s3.trans s), hb, (hcl b hbm).1, fun n' hn' H4 s4 => ?_, fun a H4 s4 ha hR => ⟨by show 2 ≤ sizeLine; decide, fun tp htp => ⟨(s.trans s4).trans (Same.new htp), ts ++ [tp], rs ++ [a], by simp, ?_, ?_⟩⟩⟩
      · rw [← zeroD_val ((hcl b hbm).2 n' hn')]
        exact DGet.k (k := Sum.inl n') (s4 _ _ (s _ _ hd3))
      · rw [take_sn hb, fieldsD_snoc (pr_len h')]
        exact pr_app (pr_imp (fun kv c _ _ z => kp_n (s4 _ _ z) htp) h) (.cons upd_same .nil)
      · rw [take_sn hb]
        exact pr_app (pr_imp (fun r c _ _ z => z.same (s4.trans (Same.new htp))) h') (.cons (hR.same (Same.new htp)) .nil)
    · rintro ys H4 ⟨s4, ts, rs, rfl, h, h'⟩ l4 hl4
      rw [List.length_map, nl, List.take_length] at h h'
      refine ⟨l4, ts, fieldsD S.boxes rs, rfl, upd_same, pr_imp (fun kv c _ _ z => kp_n z hl4) h, by rw [fieldsD_keys (pr_len h')]; exact nd_keys hh.nm, fun d2 hd2 => ?_⟩
      have s5 := ((s3.trans s4).trans (Same.new (o := .lst (ts.map V.ref)) hl4)).trans (Same.new (o := .dK (fieldsD S.boxes rs)) hd2)
      exact k d2 _ s5 (((s3.trans s4).trans (Same.new hl4)).free hd2) ⟨rs, upd_same, pr_imp (fun r c _ _ z => z.same ((Same.new hl4).trans (Same.new hd2))) h'⟩
theorem ok_f_steps_from {n : Nat} {f : Addr} {fd : FuncData} (F : Fun K "steps_from" "steps_from" s_f_steps_from f fd) (T : TX K mg C) (M_size : MethOk P w K mg base C n "size" ["self", "name"] (spSize C) [[]])
    (D_box_name : DefOk P w K mg base n "box_name" ["thing"] (spBoxName) [[]])
    (M_field : MethOk P w K mg base C n "field" ["self", "name", "at"] (spField C) [[]]) :
    FnOk P w K mg base CX0 (n + 1) f fd ["house", "pair"] (spSteps C) := by
  obtain ⟨f_size, fd_size, m_size, G_size, b_size⟩ := M_size
  obtain ⟨f_box_name, fd_box_name, n_box_name, k_box_name, J_box_name, c_box_name⟩ := D_box_name
  obtain ⟨f_field, fd_field, m_field, G_field, b_field⟩ := M_field
  refine F.ok sc_f_steps_from (fun vs H Q E h => ?_) (fun cdv A outer s H vs Q E hr h => ?_)
  · obtain ⟨p, pp, A', S, i, jc, b, c, rfl, _⟩ := h
    rfl
  · obtain ⟨p, pp, A', S, i, jc, b, c, rfl, hh, hpp, hb, hc, hrow, hlk, k⟩ := h
    have hu := hu_of hr
    refine ⟨_, (pss_cons (ps_set (i := 2) sc_f_steps_from.nd rfl (Or.inl rfl) (pe_lst pa_nil))
      (pss_cons (ps_for PassesOwn.never rfl (pi_range1 (by rfl) T.g_range (pa_cons (pe_meth (pv 0) T.cl m_size G_size hr (b_size [] (by simp)) .nil pass0 (pa_cons (pe_ix ix_tup (pv 1) pe_int (fun _ _ => rfl)) pa_nil)) pa_nil)) (pg_name (i := 3) sc_f_steps_from.nd rfl (Or.inl rfl))
      (pss_cons (ps_set (i := 4) sc_f_steps_from.nd rfl (Or.inl rfl) (pe_call J_box_name hr (by rfl) n_box_name k_box_name (c_box_name [] (by simp)) .nil pass0 (pa_cons (pe_meth (pv 0) T.cl m_field G_field hr (b_field [] (by simp)) .nil pass0 (pa_cons (pe_ix ix_tup (pv 1) pe_int (fun _ _ => rfl)) (pa_cons (pv 3) pa_nil))) pa_nil)))
      (pss_cons (ps_set (i := 5) sc_f_steps_from.nd rfl (Or.inl rfl) (pe_call J_box_name hr (by rfl) n_box_name k_box_name (c_box_name [] (by simp)) .nil pass0 (pa_cons (pe_meth (pv 0) T.cl m_field G_field hr (b_field [] (by simp)) .nil pass0 (pa_cons (pe_ix ix_tup (pv 1) pe_int (fun _ _ => rfl)) (pa_cons (pv 3) pa_nil))) pa_nil)))
      (pss_one (ps_if (pt_cmp (pc_notN (pv 4))) (pss_one (ps_expr (pe_bm PySem.F.plainAttrs_list PySem.F.slot_list_append PySem.F.type_list_append mt_append (pv 2) (pa_cons (pe_tup (pa_cons (pv 3) (pa_cons (pe_tup (pa_cons (pv 4) (pa_cons (pv 5) pa_nil))) pa_nil))) pa_nil)))) pss_nil)))))
      (pss_one (ps_ret (pv 2))))), ?_⟩
    have hlen : b.row.length = c.row.length := by have := congrArg List.length hlk; simpa using this
    refine ⟨Nat.zero_le _, fun l hl => ?_⟩
    have hh1 := hh.new (o := .lst []) hl
    have hpp1 := kp_n (o := .lst []) hpp hl
    refine ⟨_, rfl, p, A'.dx, _, rfl, hh1.ob, hf_none (by decide +kernel), _, rfl, pp, _, 0, .int b.name, rfl, rfl, SqT.of hpp1, rfl, p, A', S, i, b, rfl, hh1, hb, (b.row.length : Int), rfl, by omega, by omega, ?_⟩
    refine for_range (n := ((b.row.length : Int)).toNat) (fun j σ H' => ∃ v_at v_first v_second, σ = [some (.ref p), some (.ref pp), some (.ref l), v_at, v_first, v_second] ∧ Same H H' ∧ ∃ as : List Addr, H' l = some (.lst (as.map V.ref)) ∧ Paired (StepAt H') (stepsAt 0 (b.row.take j) (c.row.take j)) as ∧ as.length ≤ j) ?_ ?_ ?_
    · exact ⟨_, _, _, rfl, Same.new hl, [], upd_same, .nil, by simp⟩
    · rintro j σ H1 hj ⟨v1, v2, v3, rfl, s1, as, hL1, hP1, ha1⟩
      have e0 : (0 : Int) + (j : Int) = (j : Int) := Int.zero_add _
      rw [e0]
      have hjb : j < b.row.length := by omega
      have hjc : j < c.row.length := by omega
      have ht : b.row[j]? = some b.row[j] := List.getElem?_eq_getElem hjb
      have hu : c.row[j]? = some c.row[j] := List.getElem?_eq_getElem hjc
      have hr2 : ren (fun _ => 0) b.row[j] = ren (fun _ => 0) c.row[j] := by
        have := congrArg (fun l => l[j]?) hlk
        simp only [List.getElem?_map, ht, hu, Option.map_some] at this
        exact Option.some.inj this
      have hh2 := hh.same s1
      have hpp2 := s1 _ _ hpp
      refine ⟨_, rfl, p, A'.dx, _, rfl, hh2.ob, hf_none (by decide +kernel), _, rfl, pp, _, 0, .int b.name, rfl, rfl, SqT.of hpp2, rfl, _, rfl, p, A', S, i, b, j, b.row[j], rfl, hh2, hb, ht, fun v tv => ⟨v, b.row[j], rfl, tv, ?_⟩⟩
      refine ⟨_, rfl, p, A'.dx, _, rfl, hh2.ob, hf_none (by decide +kernel), _, rfl, pp, _, 1, .int c.name, rfl, rfl, SqT.of hpp2, rfl, _, rfl, p, A', S, jc, c, j, c.row[j], rfl, hh2, hc, hu, fun u tu => ⟨u, c.row[j], rfl, tu, ?_⟩⟩
      rw [take_sn ht, take_sn hu, stepsAt_snoc _ _ _ _ _ (by simp; omega)]
      have el : 0 + (b.row.take j).length = j := by simp; omega
      rw [el]
      generalize b.row[j] = t at hr2 tv ⊢
      generalize c.row[j] = t' at hr2 tu ⊢
      cases t with
      | non =>
        refine ⟨_, rfl, _, rfl, iteF ⟨_, _, _, rfl, s1, as, hL1, ?_, by omega⟩⟩
        cases t' <;> simpa [stepsAt] using hP1
      | num z =>
        refine ⟨_, rfl, _, rfl, iteF ⟨_, _, _, rfl, s1, as, hL1, ?_, by omega⟩⟩
        cases t' <;> simpa [stepsAt] using hP1
      | box x =>
        cases t' with
        | non => cases hr2
        | num z => cases hr2
        | box y =>
          refine ⟨_, rfl, _, rfl, iteT ⟨_, rfl, .inl ⟨rfl, _, SqL.of hL1⟩, _, rfl, _, rfl, _, rfl, by show 2 ≤ sizeLine; decide, fun q hq => ⟨by show 2 ≤ sizeLine; decide, fun tp htp => ?_⟩⟩⟩
          have hL3 := kp_n (o := .tup [.int (j : Int), .ref q]) (kp_n (o := .tup [.int x, .int y]) hL1 hq) htp
          refine ⟨l, _, _, rfl, rfl, hL3, by rw [List.length_map]; exact small1000 (by omega), ?_⟩
          have s3 := (Same.new (o := .tup [.int x, .int y]) hq).trans (Same.new (o := .tup [.int (j : Int), .ref q]) htp)
          have tu3 := Tups.upd (o := .lst (as.map V.ref ++ [.ref tp])) hL3 (by intro xs z; cases z)
          refine ⟨_, _, _, rfl, fun z o e => ?_, as ++ [tp], by rw [upd_same]; simp, ?_, by simp; omega⟩
          · rw [upd_ne (ne_of_none e hl)]; exact s3 _ _ (s1 _ _ e)
          · refine pr_app (pr_imp (fun r a _ _ z => ?_) hP1) (.cons ⟨q, tu3 _ _ upd_same, tu3 _ _ (kp_n upd_same htp)⟩ .nil)
            obtain ⟨q', z1, z2⟩ := z.same s3
            exact ⟨q', tu3 _ _ z1, tu3 _ _ z2⟩
    · rintro σ H1 ⟨v1, v2, v3, rfl, s1, as, hL1, hP1, _⟩
      rw [show ((b.row.length : Int)).toNat = b.row.length by omega, List.take_length, hlen, List.take_length] at hP1
      exact ⟨_, rfl, k l as H1 s1 hl hL1 hP1⟩
end
end LW


/-! THE PROGRAM's defs: the road, and where two boxes are told apart -/
namespace LW
open PySem L2
def keyOf (p : Pr) : List Key := [Sum.inl p.1, Sum.inl p.2]
theorem keyOf_inj {p q : Pr} (h : keyOf p = keyOf q) : p = q := by
  injection h with h1 h2
  injection h2 with h2 _
  exact Prod.ext (Sum.inl.inj h1) (Sum.inl.inj h2)
def keyed (es : List En) (vs : List V) : List (List Key × V) := (es.zip vs).map fun q => (keyOf q.1.pr, q.2)
def FromV (H : Hp) (e : En) (v : V) : Prop := (e.fr = none ∧ v = .non) ∨ ∃ (p : Pr) (k : Nat) (t pa : Addr), e.fr = some (p, k) ∧ v = .ref t ∧ H t = some (.tup [.ref pa, .int (k : Nat)]) ∧ H pa = some (.tup [.int p.1, .int p.2])
theorem FromV.keep {H H' : Hp} {e : En} {v : V} (s : Tups H H') (h : FromV H e v) : FromV H' e v := by
  rcases h with h | ⟨p, k, t, pa, h1, h2, h3, h4⟩
  · exact .inl h
  · exact .inr ⟨p, k, t, pa, h1, h2, s _ _ h3, s _ _ h4⟩
def ReachedAt (H : Hp) (d : Addr) (es : List En) (vs : List V) : Prop := H d = some (.dT (keyed es vs)) ∧ Paired (FromV H) es vs
theorem keyed_keys {es : List En} {vs : List V} (h : es.length = vs.length) : (keyed es vs).map (·.1) = es.map fun e => keyOf e.pr := by
  unfold keyed
  rw [List.map_map]
  refine List.ext_getElem? fun j => ?_
  rw [List.getElem?_map, List.getElem?_map]
  cases e : es[j]? with
  | none => rw [List.getElem?_eq_none (by rw [List.length_zip]; have := List.getElem?_eq_none_iff.mp e; omega)]; rfl
  | some x =>
    have h1 := (List.getElem?_eq_some_iff.mp e).1
    rw [List.getElem?_zip_eq_some.mpr (show es[j]? = some (x, vs[j]'(by omega)).1 ∧ vs[j]? = some (x, vs[j]'(by omega)).2 from ⟨e, List.getElem?_eq_getElem _⟩)]
    rfl
theorem keyed_nd {N : List Int} {es : List En} {vs : List V} (h : EsOk N es) (hl : es.length = vs.length) : ((keyed es vs).map (·.1)).Nodup := by
  rw [keyed_keys hl, show (es.map fun e => keyOf e.pr) = (es.map (·.pr)).map keyOf by rw [List.map_map]; rfl]
  exact List.pairwise_map.mpr (h.nd.imp fun ne e => ne (keyOf_inj e))
theorem keyed_val {N : List Int} {es : List En} {vs : List V} {j : Nat} {e : En} {v : V} (h : EsOk N es) (hl : es.length = vs.length) (he : es[j]? = some e) (hv : vs[j]? = some v) : valV (keyed es vs) (keyOf e.pr) = some v := by
  refine valV_at (i := j) (keyed_nd h hl) ?_
  unfold keyed
  rw [List.getElem?_map, List.getElem?_zip_eq_some.mpr (show es[j]? = some (e, v).1 ∧ vs[j]? = some (e, v).2 from ⟨he, hv⟩)]
  rfl
def spRoadTo : Sp := fun vs H Q _ => ∃ (pp d : Addr) (N : List Int) (es : List En) (vs' : List V) (j : Nat) (e : En), vs = [.ref pp, .ref d] ∧ H pp = some (.tup [.int e.pr.1, .int e.pr.2]) ∧ EsOk N es ∧ es[j]? = some e ∧ ReachedAt H d es vs' ∧ e.rd.length ≤ 900 ∧
  ∀ l H', Same H H' → H l = none → H' l = some (.lst ((e.rd.map fun k => V.int (k : Nat)))) → Q (.ref l) H'
def roadMu (R : Nat) : St → Hp → Nat
  | [_, _, some (.ref l), _], H => match H l with
    | some (.lst xs) => R - xs.length
    | _ => 0
  | _, _ => 0
section
variable {P : Program} {w : World} {K : PySem.W.Frag} {mg : Str → Option Value} {base : Heap} {C : Addr}
theorem ok_f_road_to {n : Nat} {f : Addr} {fd : FuncData} (F : Fun K "road_to" "road_to" s_f_road_to f fd) (T : TX K mg C) (grev : mg "reversed" = none)  :
    FnOk P w K mg base CX0 (n + 1) f fd ["pair", "reached"] (spRoadTo) := by
  refine F.ok sc_f_road_to (fun vs H Q E h => ?_) (fun cdv A outer s H vs Q E hr h => ?_)
  · obtain ⟨pp, d, N, es, vs', j0, e0, rfl, _⟩ := h
    rfl
  · obtain ⟨pp, d, N, es, vs', j0, e0, rfl, hpp, ok, hj0, ⟨hd, hfv⟩, hrl, k⟩ := h
    have hu := hu_of hr
    refine ⟨_, (pss_cons (ps_set (i := 2) sc_f_road_to.nd rfl (Or.inl rfl) (pe_lst pa_nil))
      (pss_cons (ps_set (i := 3) sc_f_road_to.nd rfl (Or.inl rfl) (pe_dget hu (pv 1) (pv 0) (fun _ _ => rfl)))
      (pss_cons (ps_while PassesOwn.never (pt_cmp (pc_notN (pv 3)))
      (pss_cons (ps_expr (pe_bm PySem.F.plainAttrs_list PySem.F.slot_list_append PySem.F.type_list_append mt_append (pv 2) (pa_cons (pe_ix ix_tup (pv 3) pe_int (fun _ _ => rfl)) pa_nil)))
      (pss_one (ps_set (i := 3) sc_f_road_to.nd rfl (Or.inl rfl) (pe_dget hu (pv 1) (pe_ix ix_tup (pv 3) pe_int (fun _ _ => rfl)) (fun _ _ => rfl))))))
      (pss_one (ps_ret (pe_listRev hr.hd (by rfl) T.g_list (by rfl) grev (pv 2))))))), ?_⟩
    have hvl := pr_len hfv
    have tk : ∀ (p : Pr), (keyOf p).map kV = [V.int p.1, V.int p.2] := fun _ => rfl
    refine ⟨Nat.zero_le _, fun l hl => ?_⟩
    obtain ⟨v0, hv0, hf0⟩ := pr_get hfv hj0
    refine ⟨_, rfl, _, rfl, d, v0, rfl, by rw [← keyed_val ok hvl hj0 hv0]; exact DGet.t (kp_n hd hl) (by rw [tk]; exact kp_n hpp hl), ?_⟩
    refine while_by (fun σ H' => ∃ (j : Nat) (e : En) (v : V) (rr : List Nat), σ = [some (.ref pp), some (.ref d), some (.ref l), some v] ∧ Same H H' ∧ es[j]? = some e ∧ vs'[j]? = some v ∧ H' l = some (.lst (rr.map fun k => V.int (k : Nat))) ∧ e0.rd = e.rd ++ rr.reverse) (fun σ H' => roadMu e0.rd.length σ H') ?_ ?_ ?_
    · exact ⟨j0, e0, v0, [], rfl, Same.new hl, hj0, hv0, upd_same, by simp⟩
    · rintro σ H1 ⟨j, e, v, rr, rfl, s1, hj, hv, hL, hR⟩
      obtain ⟨v', hv', hf⟩ := pr_get hfv hj
      rw [hv] at hv'
      cases hv'
      rcases hf with ⟨hfr, rfl⟩ | ⟨p, kk, t, pa, hfr, rfl, h3, h4⟩
      · refine ⟨_, rfl, _, rfl, iteF ?_⟩
        have hrd : e.rd = [] := by
          rcases ok.rd j e hj with ⟨_, z⟩ | ⟨p, k', i, e', z, _⟩
          · exact z
          · rw [hfr] at z; cases z
        rw [hrd, List.nil_append] at hR
        refine ⟨_, rfl, l, _, rfl, hL, fun l2 hl2 => k l2 _ (s1.trans (Same.new hl2)) (s1.free hl2) ?_⟩
        rw [upd_same, hR, List.map_reverse]
      · refine ⟨_, rfl, _, rfl, iteT ?_⟩
        rcases ok.rd j e hj with ⟨z, _⟩ | ⟨p', k', i, e', z1, z2, z3, z4, z5⟩
        · rw [hfr] at z; cases z
        rw [hfr] at z1
        cases z1
        have h3' := s1 _ _ h3
        have h4' := s1 _ _ h4
        have hrr : rr.length < e0.rd.length := by rw [hR, z5]; simp; omega
        refine ⟨_, rfl, .inl ⟨rfl, _, SqL.of hL⟩, _, rfl, t, _, 1, .int (kk : Nat), rfl, rfl, SqT.of h3', rfl, l, _, _, rfl, rfl, hL, by rw [List.length_map]; exact small1000 (by omega), ?_⟩
        have tu := Tups.upd (o := .lst ((rr.map fun k => V.int (k : Nat)) ++ [.int (kk : Nat)])) hL (by intro xs z; cases z)
        have s2 : Same H (upd H1 l (.lst ((rr.map fun k => V.int (k : Nat)) ++ [.int (kk : Nat)]))) := fun x o z => by rw [upd_ne (ne_of_none z hl)]; exact s1 _ _ z
        obtain ⟨v2, hv2, hf2⟩ := pr_get hfv z3
        refine ⟨_, rfl, _, rfl, t, _, 0, .ref pa, rfl, rfl, SqT.of (tu _ _ h3'), rfl, d, v2, rfl, by rw [← keyed_val ok hvl z3 hv2]; exact DGet.t (s2 _ _ hd) (by rw [tk, z4]; exact tu _ _ h4'), ?_⟩
        refine ⟨⟨i, e', v2, rr ++ [kk], rfl, s2, z3, hv2, by rw [upd_same]; simp, by rw [hR, z5]; simp⟩, ?_⟩
        show roadMu _ [some (.ref pp), some (.ref d), some (.ref l), some v2] _ < roadMu _ [some (.ref pp), some (.ref d), some (.ref l), _] _
        simp only [roadMu, upd_same, hL, List.length_append, List.length_map, List.length_singleton]
        omega
    · intro σ H1 Q1 Q2 hQ h
      obtain ⟨v, e1, kz, e2, z⟩ := h
      exact ⟨v, e1, kz, e2, hQ _ _ z⟩
end
end LW


/-! THE PROGRAM's defs: apart -/
namespace LW
open PySem L2
theorem rows_items {H : Hp} {r r' : Row} {a b : Addr} (h : RowT H r a) (h' : RowT H r' b) : ∃ (xs ys : List V) (e : Nat → Bool), H a = some (.tup xs) ∧ H b = some (.tup ys) ∧ (∀ (j : Nat) (x y : V), xs[j]? = some x → ys[j]? = some y → EqG H 8 x y (e j)) ∧ ((List.range (min xs.length ys.length)).all e && xs.length == ys.length) = decide (r = r') := by
  obtain ⟨t, vs, h1, h2, h3⟩ := h
  obtain ⟨t', us, g1, g2, g3⟩ := h'
  have in_ : EqG H 8 (.ref t) (.ref t') (decide (r.2 = r'.2)) := by
    by_cases tt : t = t'
    · subst tt
      rw [h2] at g2
      cases g2
      rw [decide_eq_true (Ths_fun h3 g3)]
      exact EqG.same rfl
    · have g := EqG.tup (n := 7) tt h2 g2 (eqG_ths (n := 6) h3 g3)
      rw [← pr_len h3, ← pr_len g3, all_range (xs := r.2) (ys := r'.2) eT_at] at g
      exact g
  refine ⟨_, _, fun j => if j = 0 then decide (r.1 = r'.1) else decide (r.2 = r'.2), h1, g1, fun j x y hx hy => ?_, ?_⟩
  · rcases j with _ | _ | j
    · cases hx; cases hy
      have g := EqG.flat (H := H) (n := 8) (v := .str r.1) (u := .str r'.1) rfl rfl
      rw [show eqV (.str r.1) (.str r'.1) = decide (r.1 = r'.1) by show (r.1 == r'.1) = _; by_cases z : r.1 = r'.1 <;> simp [z]] at g
      exact g
    · cases hx; cases hy
      exact in_
    · simp at hx
  · rw [show decide (r = r') = (decide (r.1 = r'.1) && decide (r.2 = r'.2)) by rw [← Bool.decide_and]; exact decide_eq_decide.mpr Prod.ext_iff]
    simp [List.range, List.range.loop]
theorem rd_len {N : List Int} {es : List En} (h : EsOk N es) : ∀ (m j : Nat) (e : En), j < m → es[j]? = some e → e.rd.length ≤ j
  | 0, _, _, hj, _ => by omega
  | m + 1, j, e, hj, he => by
    rcases h.rd j e he with ⟨_, z⟩ | ⟨p, k, i, e', _, z2, z3, _, z5⟩
    · rw [z]; exact Nat.zero_le _
    · have := rd_len h m i e' (by omega) z3
      rw [z5]; simp; omega
theorem keyed_some {es : List En} {vs : List V} (h : es.length = vs.length) (p : Pr) : (valV (keyed es vs) (keyOf p)).isSome = decide (p ∈ es.map (·.pr)) := by
  have hk := keyed_keys h
  cases e : valV (keyed es vs) (keyOf p) with
  | some v =>
    have := valV_in e
    rw [hk] at this
    obtain ⟨x, hx, z⟩ := List.mem_map.mp this
    exact (decide_eq_true (List.mem_map.mpr ⟨x, hx, keyOf_inj z⟩)).symm
  | none =>
    have := valV_not e
    refine (decide_eq_false fun m => this ?_).symm
    rw [hk]
    obtain ⟨x, hx, z⟩ := List.mem_map.mp m
    exact List.mem_map.mpr ⟨x, hx, by rw [z]⟩
theorem keyed_put {es : List En} {vs : List V} {e : En} {v : V} (h : es.length = vs.length) (hn : e.pr ∉ es.map (·.pr)) : putK (keyed es vs) (keyOf e.pr) v = keyed (es ++ [e]) (vs ++ [v]) := by
  have hv : valV (keyed es vs) (keyOf e.pr) = none := by
    have := keyed_some h e.pr
    rw [decide_eq_false hn] at this
    cases z : valV (keyed es vs) (keyOf e.pr) with
    | none => rfl
    | some v => rw [z] at this; cases this
  unfold putK
  rw [valV_any, hv]
  show keyed es vs ++ [(keyOf e.pr, v)] = _
  unfold keyed
  rw [List.zip_append h, List.map_append]
  rfl
def PairA (H : Hp) (e : En) (a : Addr) : Prop := H a = some (.tup [.int e.pr.1, .int e.pr.2])
structure ApSt (H0 H : Hp) (dl d lp : Addr) (bs : List Box) (es : List En) (vs : List V) (as : List Addr) : Prop where
  same : Same H0 H
  look : LooksAt H dl bs
  re : ReachedAt H d es vs
  pl : H lp = some (.lst (as.map V.ref))
  pa : Paired (PairA H) es as
  ok : EsOk (bs.map (·.name)) es
theorem ApSt.mono {H0 H H' : Hp} {dl d lp : Addr} {bs : List Box} {es : List En} {vs : List V} {as : List Addr} (s : Same H H') (h : ApSt H0 H dl d lp bs es vs as) : ApSt H0 H' dl d lp bs es vs as :=
  ⟨h.same.trans s, h.look.same s, ⟨s _ _ h.re.1, pr_imp (fun _ _ _ _ z => z.keep (Tups.of_same s)) h.re.2⟩, s _ _ h.pl, pr_imp (fun _ _ _ _ z => s _ _ z) h.pa, h.ok⟩
def apRes (bs : List Box) (n m : Int) : Option (List Nat) := apRun bs (bs.length * bs.length + 1) [⟨(n, m), none, []⟩] 0
def ApOut (Q : V → Hp → Prop) (H : Hp) (R : Option (List Nat)) : Prop := (R = none → ∀ H', Same H H' → Q .non H') ∧ ∀ r, R = some r → ∀ l H', Same H H' → H l = none → H' l = some (.lst (r.map fun k => V.int (k : Nat))) → Q (.ref l) H'
def spApart (C : Addr) : Sp := fun vs H Q _ => ∃ (p : Addr) (A : HA) (S : HS) (n m : Int), vs = [.ref p, .int n, .int m] ∧ HouseAt C H p A S ∧ n ∈ names S ∧ m ∈ names S ∧ Closed S.boxes ∧ S.boxes.length ≤ 30 ∧ ApOut Q H (apRes S.boxes n m)
def apMu (M : Nat) : St → Nat
  | [_, _, _, _, _, _, some (.int k), _, _] => (M - k).toNat
  | _ => 0
theorem steps_in {bs : List Box} {b c : Box} (hcl : Closed bs) (hb : b ∈ bs) (hc : c ∈ bs) : ∀ (k : Nat) (ts us : List T), (∀ t ∈ ts, t ∈ b.row) → (∀ t ∈ us, t ∈ c.row) → ∀ s ∈ stepsAt k ts us, s.2.1 ∈ bs.map (·.name) ∧ s.2.2 ∈ bs.map (·.name)
  | k, [], _, _, _, s, hs => by simp [stepsAt] at hs
  | k, t :: ts, [], _, _, s, hs => by cases t <;> simp [stepsAt] at hs
  | k, t :: ts, u :: us, h1, h2, s, hs => by
    have ih := steps_in hcl hb hc (k + 1) ts us (fun x hx => h1 x (List.mem_cons_of_mem _ hx)) (fun x hx => h2 x (List.mem_cons_of_mem _ hx))
    have a1 := h1 t List.mem_cons_self
    have a2 := h2 u List.mem_cons_self
    cases t <;> cases u <;> first | exact ih s hs | skip
    rcases List.mem_cons.mp hs with z | z
    · subst z; exact ⟨(hcl b hb).2 _ a1, (hcl c hc).2 _ a2⟩
    · exact ih s z
section
variable {P : Program} {w : World} {K : PySem.W.Frag} {mg : Str → Option Value} {base : Heap} {C : Addr}
theorem ok_f_apart {n : Nat} {f : Addr} {fd : FuncData} (F : Fun K "apart" "apart" s_f_apart f fd) (T : TX K mg C) (M_check_box : MethOk P w K mg base C n "check_box" ["self", "name"] (spCheckBox C) [[]])
    (D_looks_of : DefOk P w K mg base n "looks_of" ["house"] (spLooks C) [[]])
    (D_road_to : DefOk P w K mg base n "road_to" ["pair", "reached"] (spRoadTo) [[]])
    (D_steps_from : DefOk P w K mg base n "steps_from" ["house", "pair"] (spSteps C) [[]]) :
    FnOk P w K mg base CX0 (n + 1) f fd ["house", "name", "other"] (spApart C) := by
  obtain ⟨f_check_box, fd_check_box, m_check_box, G_check_box, b_check_box⟩ := M_check_box
  obtain ⟨f_looks_of, fd_looks_of, n_looks_of, k_looks_of, J_looks_of, c_looks_of⟩ := D_looks_of
  obtain ⟨f_road_to, fd_road_to, n_road_to, k_road_to, J_road_to, c_road_to⟩ := D_road_to
  obtain ⟨f_steps_from, fd_steps_from, n_steps_from, k_steps_from, J_steps_from, c_steps_from⟩ := D_steps_from
  refine F.ok sc_f_apart (fun vs H Q E h => ?_) (fun cdv A outer s H vs Q E hr h => ?_)
  · obtain ⟨p, A', S, n0, m0, rfl, _⟩ := h
    rfl
  · obtain ⟨p, A', S, n0, m0, rfl, hh, hn, hm, hcl, few, kN, kS⟩ := h
    have hu := hu_of hr
    refine ⟨_, (pss_cons (ps_expr (pe_meth (pv 0) T.cl m_check_box G_check_box hr (b_check_box [] (by simp)) .nil pass0 (pa_cons (pv 1) pa_nil)))
      (pss_cons (ps_expr (pe_meth (pv 0) T.cl m_check_box G_check_box hr (b_check_box [] (by simp)) .nil pass0 (pa_cons (pv 2) pa_nil)))
      (pss_cons (ps_set (i := 3) sc_f_apart.nd rfl (Or.inl rfl) (pe_call J_looks_of hr (by rfl) n_looks_of k_looks_of (c_looks_of [] (by simp)) .nil pass0 (pa_cons (pv 0) pa_nil)))
      (pss_cons (ps_set (i := 4) sc_f_apart.nd rfl (Or.inl rfl) (pe_dispT hu (pe_tup (pa_cons (pv 1) (pa_cons (pv 2) pa_nil))) pe_non))
      (pss_cons (ps_set (i := 5) sc_f_apart.nd rfl (Or.inl rfl) (pe_lst (pa_cons (pe_tup (pa_cons (pv 1) (pa_cons (pv 2) pa_nil))) pa_nil)))
      (pss_cons (ps_set (i := 6) sc_f_apart.nd rfl (Or.inl rfl) pe_int)
      (pss_cons (ps_while PassesOwn.never (pt_cmpR op_lt (pv 6) (pe_callB call_len_seq (by rfl) T.g_len PySem.boot_len (pa_cons (pv 5) pa_nil)) (nomark _))
      (pss_cons (ps_set (i := 7) sc_f_apart.nd rfl (Or.inl rfl) (pe_ix ix_list (pv 5) (pv 6) (fun _ _ => rfl)))
      (pss_cons (ps_if (pt_cmpR (op_neTG hr.units) (pe_dget hu (pv 3) (pe_ix ix_tup (pv 7) pe_int (fun _ _ => rfl)) (fun _ _ => rfl)) (pe_dget hu (pv 3) (pe_ix ix_tup (pv 7) pe_int (fun _ _ => rfl)) (fun _ _ => rfl)) (nomark _)) (pss_one (ps_ret (pe_call J_road_to hr (by rfl) n_road_to k_road_to (c_road_to [] (by simp)) .nil pass0 (pa_cons (pv 7) (pa_cons (pv 4) pa_nil))))) pss_nil)
      (pss_cons (ps_for PassesOwn.never rfl (pi_list (pe_call J_steps_from hr (by rfl) n_steps_from k_steps_from (c_steps_from [] (by simp)) .nil pass0 (pa_cons (pv 0) (pa_cons (pv 7) pa_nil)))) (pg_name (i := 8) sc_f_apart.nd rfl (Or.inl rfl))
      (pss_one (ps_if (pt_cmp (pc_dnotin hu (pe_ix ix_tup (pv 8) pe_int (fun _ _ => rfl)) (pv 4))) (pss_cons (ps_dput hu (pv 4) (pe_ix ix_tup (pv 8) pe_int (fun _ _ => rfl)) (pe_tup (pa_cons (pv 7) (pa_cons (pe_ix ix_tup (pv 8) pe_int (fun _ _ => rfl)) pa_nil))) rfl)
      (pss_one (ps_expr (pe_bm PySem.F.plainAttrs_list PySem.F.slot_list_append PySem.F.type_list_append mt_append (pv 5) (pa_cons (pe_ix ix_tup (pv 8) pe_int (fun _ _ => rfl)) pa_nil))))) pss_nil)))
      (pss_one (ps_aug (i := 6) sc_f_apart.nd rfl (Or.inl rfl) pe_int ip_add))))))
      (pss_one (ps_ret pe_non))))))))), ?_⟩
    have tk : ∀ (p : Pr), (keyOf p).map kV = [V.int p.1, V.int p.2] := fun _ => rfl
    have nsq : S.boxes.length * S.boxes.length ≤ 900 := Nat.le_trans (Nat.mul_le_mul few few) (by decide)
    refine ⟨_, rfl, p, A'.dx, _, rfl, hh.ob, hf_none (by decide +kernel), _, rfl, p, A', S, n0, rfl, hh, hn, ?_⟩
    refine ⟨_, rfl, p, A'.dx, _, rfl, hh.ob, hf_none (by decide +kernel), _, rfl, p, A', S, m0, rfl, hh, hm, ?_⟩
    refine ⟨_, rfl, p, A', S, rfl, hh, by omega, hcl, fun dl H1 s1 hdl hLk => ?_⟩
    refine fun d hd => ?_
    refine ⟨_, rfl, _, rfl, by show 2 ≤ sizeLine; decide, fun b1 hb1 => ⟨kp_n upd_same hb1, b1, keyOf (n0, m0), rfl, upd_same, ?_⟩⟩
    have d1 : d ≠ b1 := ne_of_none upd_same hb1
    have hd0 : H d = none := s1.free hd
    have s2 : Same H1 (upd (upd (upd H1 d (.dT [])) b1 (.tup ((keyOf (n0, m0)).map kV))) d (.dT [(keyOf (n0, m0), .non)])) := fun x o e => by
      rw [upd_ne (ne_of_none e hd), upd_ne (ne_of_none (kp_n (o := .dT []) e hd) hb1), upd_ne (ne_of_none e hd)]; exact e
    have hd2 : (upd (upd (upd H1 d (.dT [])) b1 (.tup ((keyOf (n0, m0)).map kV))) d (.dT [(keyOf (n0, m0), .non)])) d = some (.dT [(keyOf (n0, m0), .non)]) := upd_same
    show tSeq _ _ _ _ (upd (upd (upd H1 d (.dT [])) b1 (.tup ((keyOf (n0, m0)).map kV))) d (.dT [(keyOf (n0, m0), .non)]))
    generalize upd (upd (upd H1 d (.dT [])) b1 (.tup ((keyOf (n0, m0)).map kV))) d (.dT [(keyOf (n0, m0), .non)]) = H2 at s2 hd2 ⊢
    refine ⟨_, rfl, _, rfl, by show 2 ≤ sizeLine; decide, fun b2 hb2 => ⟨by show 1 ≤ sizeLine; decide, fun lp hlp => ?_⟩⟩
    have s3 := (Same.new (o := .tup [.int n0, .int m0]) hb2).trans (Same.new (o := .lst [.ref b2]) hlp)
    have hlp0 : H lp = none := ((s1.trans s2).trans (Same.new hb2)).free hlp
    have st0 : ApSt H (upd (upd H2 b2 (.tup [.int n0, .int m0])) lp (.lst [.ref b2])) dl d lp S.boxes [⟨(n0, m0), none, []⟩] [.non] [b2] :=
      ⟨(s1.trans s2).trans s3, (hLk.same s2).same s3, ⟨s3 _ _ hd2, .cons (.inl ⟨rfl, rfl⟩) .nil⟩, upd_same, .cons (kp_n upd_same hlp) .nil, EsOk.start hn hm⟩
    refine while_by (fun σ H' => ∃ (j : Nat) (es : List En) (vs : List V) (as : List Addr) (v7 v8 : Option V), σ = [some (.ref p), some (.int n0), some (.int m0), some (.ref dl), some (.ref d), some (.ref lp), some (.int j), v7, v8] ∧ ApSt H H' dl d lp S.boxes es vs as ∧ j ≤ es.length ∧ apRun S.boxes (S.boxes.length * S.boxes.length + 1 - j) es j = apRes S.boxes n0 m0) (fun σ _ => apMu 901 σ) ?_ ?_ ?_
    · exact ⟨0, _, _, _, none, none, rfl, st0, Nat.zero_le _, rfl⟩
    · rintro σ H3 ⟨j, es, vs, as, v7, v8, rfl, st, hj, hrun⟩
      have hal := pr_len st.pa
      have hvl := pr_len st.re.2
      have hel : es.length ≤ S.boxes.length * S.boxes.length := by have := st.ok.len; rwa [List.length_map] at this
      refine ⟨_, rfl, _, rfl, lp, _, rfl, .inl (SqL.of st.pl), _, _, rfl, rfl, _, rfl, ite2 (fun h => ?_) (fun h => ?_)⟩
      · have h : (j : Int) < ((as.map V.ref).length : Int) := of_decide_eq_true h
        rw [List.length_map] at h
        have hjl : j < es.length := by omega
        obtain ⟨e, he⟩ : ∃ e, es[j]? = some e := ⟨_, List.getElem?_eq_getElem hjl⟩
        obtain ⟨a, ha, hpa⟩ := pr_get st.pa he
        have hpa : H3 a = some (.tup [.int e.pr.1, .int e.pr.2]) := hpa
        refine ⟨_, rfl, _, rfl, lp, _, j, .ref a, rfl, rfl, SqL.of st.pl, atI_nat (by rw [List.getElem?_map, ha]; rfl), ?_⟩
        obtain ⟨hx1, hx2⟩ := st.ok.mem e (List.mem_of_getElem? he)
        obtain ⟨i1, b, hb, eb⟩ := find_name (S := S) hx1
        obtain ⟨i2, c, hc, ec⟩ := find_name (S := S) hx2
        obtain ⟨ls, hld, hlr⟩ := st.look
        have hll := pr_len hlr
        obtain ⟨r1, hr1, hR1⟩ := pr_get hlr hb
        obtain ⟨r2, hr2, hR2⟩ := pr_get hlr hc
        have g1 : DGet H3 dl (.int e.pr.1) (some (.ref r1)) := by rw [← eb, ← rowAt hll hh.nm hb hr1]; exact DGet.k (k := Sum.inl b.name) hld
        have g2 : DGet H3 dl (.int e.pr.2) (some (.ref r2)) := by rw [← ec, ← rowAt hll hh.nm hc hr2]; exact DGet.k (k := Sum.inl c.name) hld
        obtain ⟨xs, ys, ee, q1, q2, q3, q4⟩ := rows_items hR1 hR2
        refine ⟨_, rfl, _, rfl, a, _, 0, .int e.pr.1, rfl, rfl, SqT.of hpa, rfl, dl, .ref r1, rfl, g1, _, rfl, _, rfl, a, _, 1, .int e.pr.2, rfl, rfl, SqT.of hpa, rfl, dl, .ref r2, rfl, g2, r1, r2, xs, ys, ee, rfl, rfl, q1, q2, q3, _, rfl, ?_⟩
        rw [q4]
        have hf : S.boxes.length * S.boxes.length + 1 - j = (S.boxes.length * S.boxes.length - j) + 1 := by omega
        rw [hf, apRun_some he, ← eb, ← ec, lk_at hh.nm hb, lk_at hh.nm hc] at hrun
        by_cases hlk : (b.kind, b.row.map (ren fun _ => 0)) = (c.kind, c.row.map (ren fun _ => 0))
        · rw [decide_eq_true hlk]
          rw [if_pos hlk] at hrun
          refine iteF ?_
          have hrow : b.row.map (ren fun _ => 0) = c.row.map (ren fun _ => 0) := congrArg (·.2) hlk
          have hbm := List.mem_of_getElem? hb
          have hcm := List.mem_of_getElem? hc
          have est : stepsOf S.boxes e.pr = stepsAt 0 b.row c.row := by unfold stepsOf; rw [← eb, ← ec, rowB_at hh.nm hb, rowB_at hh.nm hc]
          rw [est] at hrun
          have sin := steps_in hcl hbm hcm 0 b.row c.row (fun _ z => z) (fun _ z => z)
          refine ⟨_, rfl, _, rfl, p, a, A', S, i1, i2, b, c, rfl, hh.same st.same, by rw [eb, ec]; exact hpa, hb, hc, (hcl b hbm).1, hrow, fun l2 as2 H4 s4 hl2 hL2 hP2 => ⟨l2, rfl, ⟨_, SqL.of hL2⟩, ?_⟩⟩
          have hl20 : H l2 = none := st.same.free hl2
          have hpa4 := s4 _ _ hpa
          generalize stepsAt 0 b.row c.row = sts at hrun sin hP2
          have hsl := pr_len hP2
          refine for_list (K := K) (xs := as2.map V.ref) (fun i' σ H' => ∃ v8, σ = [some (.ref p), some (.int n0), some (.int m0), some (.ref dl), some (.ref d), some (.ref lp), some (.int j), some (.ref a), v8] ∧ ∃ vs' as', ApSt H H' dl d lp S.boxes (addP es e (sts.take i')) vs' as' ∧ (∃ i : Nat, (addP es e (sts.take i'))[i]? = some e) ∧ es.length ≤ (addP es e (sts.take i')).length ∧ H' l2 = some (.lst (as2.map V.ref)) ∧ Paired (StepAt H') sts as2 ∧ H' a = some (.tup [.int e.pr.1, .int e.pr.2])) ?_ ?_ ?_ ?_
          · exact ⟨_, rfl, vs, as, st.mono s4, ⟨j, he⟩, Nat.le_refl _, hL2, hP2, hpa4⟩
          · rintro i' σ H5 _ ⟨_, rfl, _, _, _, _, _, h5, _⟩
            exact SqL.of h5
          · rintro i' y σ H5 hy ⟨v8, rfl, vs5, as5, st5, ⟨ie, hie⟩, hge, hL5, hP5, hpa5⟩
            obtain ⟨sa, hsa, rfl⟩ : ∃ sa, as2[i']? = some sa ∧ y = .ref sa := by
              rw [List.getElem?_map] at hy
              cases z : as2[i']? with
              | none => rw [z] at hy; cases hy
              | some sa => rw [z] at hy; exact ⟨sa, rfl, (Option.some.inj hy).symm⟩
            obtain ⟨sp, hsp, q, hq1, hq2⟩ := pr_getR hP5 hsa
            rw [take_sn hsp, addP_snoc]
            have hm2 := sin sp (List.mem_of_getElem? hsp)
            generalize addP es e (sts.take i') = E5 at st5 hie hge ⊢
            have hvl5 := pr_len st5.re.2
            have hal5 := pr_len st5.pa
            have hE5 : E5.length ≤ 900 := by have := st5.ok.len; rw [List.length_map] at this; omega
            refine ⟨_, rfl, sa, _, 1, .ref q, rfl, rfl, SqT.of hq1, rfl, _, rfl, d, _, rfl, DGet.t (k := keyOf sp.2) st5.re.1 (by rw [tk]; exact hq2), _, rfl, ?_⟩
            rw [keyed_some hvl5]
            by_cases hin : sp.2 ∈ E5.map (·.pr)
            · rw [if_pos hin, decide_eq_true hin]
              exact iteF ⟨_, rfl, vs5, as5, st5, ⟨ie, hie⟩, hge, hL5, hP5, hpa5⟩
            · rw [if_neg hin, decide_eq_false hin]
              refine iteT ⟨_, rfl, _, rfl, sa, _, 0, .int (sp.1 : Nat), rfl, rfl, SqT.of hq1, rfl, by show 2 ≤ sizeLine; decide, fun t ht => ?_⟩
              have st6 := st5.mono (Same.new (o := .tup [.ref a, .int (sp.1 : Nat)]) ht)
              have kpn : ∀ {x : Addr} {o : HO}, H5 x = some o → (upd H5 t (.tup [.ref a, .int (sp.1 : Nat)])) x = some o := fun z => kp_n z ht
              have hq1' := kpn hq1
              have hq2' := kpn hq2
              have hL6 := kpn hL5
              have hpa6 := kpn hpa5
              have hP6 := pr_imp (fun r x _ _ z => StepAt.same (Same.new (o := .tup [.ref a, .int (sp.1 : Nat)]) ht) z) hP5
              have ht6 : (upd H5 t (.tup [.ref a, .int (sp.1 : Nat)])) t = some (.tup [.ref a, .int (sp.1 : Nat)]) := upd_same
              generalize upd H5 t (.tup [.ref a, .int (sp.1 : Nat)]) = H6 at st6 hq1' hq2' hL6 hpa6 hP6 ht6 ⊢
              refine ⟨_, rfl, _, rfl, sa, _, 1, .ref q, rfl, rfl, SqT.of hq1', rfl, d, _, rfl, DPut.t (k := keyOf sp.2) st6.re.1 (by rw [tk]; exact hq2') (by rw [keyed, List.length_map, List.length_zip]; exact small1000 (by omega)), ?_⟩
              rw [keyed_put (e := ⟨sp.2, some (e.pr, sp.1), e.rd ++ [sp.1]⟩) hvl5 hin]
              have tu7 := Tups.upd (o := .dT (keyed (E5 ++ [⟨sp.2, some (e.pr, sp.1), e.rd ++ [sp.1]⟩]) (vs5 ++ [.ref t]))) st6.re.1 (by intro xs z; cases z)
              have nl : ∀ {x : Addr} {zs : List V}, H6 x = some (.lst zs) → x ≠ d := fun z => ne_of z st6.re.1 (by intro z; cases z)
              have hL7 : (upd H6 d (.dT (keyed (E5 ++ [⟨sp.2, some (e.pr, sp.1), e.rd ++ [sp.1]⟩]) (vs5 ++ [.ref t])))) lp = some (.lst (as5.map V.ref)) := by rw [upd_ne (nl st6.pl)]; exact st6.pl
              refine ⟨_, rfl, .inl ⟨rfl, _, SqL.of hL7⟩, _, rfl, sa, _, 1, .ref q, rfl, rfl, SqT.of (tu7 _ _ hq1'), rfl, lp, _, _, rfl, rfl, hL7, by rw [List.length_map]; exact small1000 (by omega), ?_⟩
              have tu8 := Tups.upd (o := .lst (as5.map V.ref ++ [.ref q])) hL7 (by intro xs z; cases z)
              have tu := tu7.trans tu8
              have lpd : lp ≠ d := nl st6.pl
              refine ⟨_, rfl, vs5 ++ [.ref t], as5 ++ [q], ⟨fun x o z => ?_, ?_, ⟨?_, ?_⟩, by rw [upd_same]; simp, ?_, st6.ok.snoc hie hin hm2.1 hm2.2⟩, ⟨ie, by rw [List.getElem?_append_left (List.getElem?_eq_some_iff.mp hie).1]; exact hie⟩, by simp; omega, ?_, ?_, tu _ _ hpa6⟩
              · rw [upd_ne (ne_of_none z hlp0), upd_ne (ne_of_none z hd0)]; exact st6.same _ _ z
              · obtain ⟨zs, z1, z2⟩ := st6.look
                refine ⟨zs, ?_, pr_imp (fun r x _ _ z => ?_) z2⟩
                · rw [upd_ne (ne_of z1 st6.pl (by intro z; cases z)), upd_ne (fun z => by rw [z, st6.re.1] at z1; cases z1)]; exact z1
                · obtain ⟨t', us, w1, w2, w3⟩ := z
                  exact ⟨t', us, tu _ _ w1, tu _ _ w2, Ths.keep tu w3⟩
              · rw [upd_ne lpd.symm]; exact upd_same
              · exact pr_app (pr_imp (fun r x _ _ z => z.keep tu) st6.re.2) (.cons (.inr ⟨e.pr, sp.1, t, a, rfl, rfl, tu _ _ ht6, tu _ _ hpa6⟩) .nil)
              · exact pr_app (pr_imp (fun r x _ _ z => tu _ _ z) st6.pa) (.cons (tu _ _ hq2') .nil)
              · have l2d : l2 ≠ d := nl hL6
                have l2p : l2 ≠ lp := fun z => by rw [z] at hl2; rw [st.pl] at hl2; cases hl2
                rw [upd_ne l2p, upd_ne l2d]; exact hL6
              · exact pr_imp (fun r x _ _ z => let ⟨q', w1, w2⟩ := z; ⟨q', tu _ _ w1, tu _ _ w2⟩) hP6
          · rintro σ H5 ⟨v8, rfl, vs5, as5, st5, _, hge, _, _, _⟩
            rw [List.length_map, ← hsl, List.take_length] at st5 hge
            refine ⟨_, rfl, j, 1, rfl, rfl, ⟨j + 1, _, vs5, as5, _, _, rfl, st5, by omega, ?_⟩, ?_⟩
            · rw [← hrun]; congr 1; omega
            · show (901 - ((j : Int) + 1)).toNat < (901 - (j : Int)).toNat
              omega
        · rw [decide_eq_false hlk]
          rw [if_neg hlk] at hrun
          refine iteT ⟨_, rfl, _, rfl, a, d, _, es, vs, j, e, rfl, hpa, st.ok, he, st.re, ?_, fun l H4 s4 hl hL => ?_⟩
          · have := rd_len st.ok (j + 1) j e (by omega) he; omega
          · exact kS e.rd hrun.symm l H4 (st.same.trans s4) (st.same.free hl) hL
      · have h : ¬ (j : Int) < ((as.map V.ref).length : Int) := fun z => h (decide_eq_true z)
        rw [List.length_map] at h
        rw [apRun_none (List.getElem?_eq_none (by omega))] at hrun
        exact kN hrun.symm H3 st.same
    · intro σ H1 Q1 Q2 hQ h
      obtain ⟨v, e1, v2, e2, y1, y2, e6, e7, z1, z2, e8, e9, z3, e10, z⟩ := h
      exact ⟨v, e1, v2, e2, y1, y2, e6, e7, z1, z2, e8, e9, z3, e10, hQ _ _ z⟩
end
end LW


/-! THE LAW's record: a row is changed, or laid anew -/
namespace LW
open PySem L2
def putRow (bs : List Box) (k : Nat) (ts : List T) : List Box := bs.modify k fun b => { b with row := ts }
theorem putRow_at {bs : List Box} {m j : Nat} {ts : List T} : (putRow bs m ts)[j]? = (bs[j]?).map fun b => if m = j then { b with row := ts } else b := by
  unfold putRow
  rw [List.getElem?_modify]
  cases bs[j]? <;> rfl
theorem map_modS {β : Type} {g : Box → β} {f : Box → Box} (h : ∀ x, g (f x) = g x) (l : List Box) (i : Nat) : (l.modify i f).map g = l.map g := by
  refine List.ext_getElem? fun j => ?_
  rw [List.getElem?_map, List.getElem?_map, List.getElem?_modify]
  cases l[j]? with
  | none => rfl
  | some x =>
    show some (g (if i = j then f x else x)) = some (g x)
    split
    · rw [h]
    · rfl
theorem putRow_name (bs : List Box) (m : Nat) (ts : List T) : (putRow bs m ts).map (·.name) = bs.map (·.name) := map_modS (f := fun b : Box => { b with row := ts }) (fun _ => rfl) bs m
theorem putRow_kinds (bs : List Box) (m : Nat) (ts : List T) : kindsD (putRow bs m ts) = kindsD bs := map_modS (g := fun b : Box => ((Sum.inl b.name : Key), V.str b.kind)) (f := fun b : Box => { b with row := ts }) (fun _ => rfl) bs m
theorem BOk.row {many : Int} {b : Box} {ts : List T} (h : BOk many b) (hl : ts.length = b.row.length) (ht : ∀ t ∈ ts, TOk many t) : BOk many { b with row := ts } := ⟨h.kd, by show sizeOf b.kind (ts.length : Int) = (ts.length : Int); rw [hl]; exact h.sz, by show ts.length ≤ 8; rw [hl]; exact h.le, ht⟩
theorem nodup_setA : ∀ {l : List Addr} {m : Nat} {x : Addr}, l.Nodup → x ∉ l → (l.set m x).Nodup
  | [], _, _, _, _ => by simp
  | y :: l, 0, x, nd, hx => List.nodup_cons.mpr ⟨fun z => hx (List.mem_cons_of_mem _ z), (List.nodup_cons.mp nd).2⟩
  | y :: l, m + 1, x, nd, hx => List.nodup_cons.mpr ⟨fun z => by
      rcases List.mem_or_eq_of_mem_set z with q | q
      · exact (List.nodup_cons.mp nd).1 q
      · exact hx (by rw [← q]; exact List.mem_cons_self), nodup_setA (List.nodup_cons.mp nd).2 fun z => hx (List.mem_cons_of_mem _ z)⟩
section
variable {H0 H : Hp} {ak ar : Addr} {bs : List Box} {k : Nat} {b : Box}
theorem RecNew.put (h : RecNew H0 H ak ar bs) (hb : bs[k]? = some b) : ∃ fl a ws, H ar = some (.dK (fieldsD bs fl)) ∧ bs.length = fl.length ∧ fl[k]? = some a ∧ H a = some (.lst ws) ∧ Ths H b.row ws ∧ H0 a = none ∧
    ∀ (t : T) (v : V) (at_ : Nat), isT H t v → RecNew H0 (upd H a (.lst (ws.set at_ v))) ak ar (setRow bs k at_ t) := by
  obtain ⟨fl, hk, hr, pf, nd, fr⟩ := h
  obtain ⟨a, ha, ws, hw, htw⟩ := pr_get pf hb
  have ham := List.mem_of_getElem? ha
  refine ⟨fl, a, ws, hr, pr_len pf, ha, hw, htw, fr a (by simp [ham]), fun t v at_ tv => ?_⟩
  have ndf : fl.Nodup := (List.nodup_cons.mp (List.nodup_cons.mp nd).2).2
  have tu : Tups H (upd H a (.lst (ws.set at_ v))) := Tups.upd hw (by intro xs z; cases z)
  refine ⟨fl, ?_, ?_, rows_put pf ndf hb ha htw tv tu upd_same (fun c _ n => upd_ne n), nd, fr⟩
  · rw [upd_ne (ne_of hk hw (by intro z; cases z)), hk, kindsD_setRow]
  · rw [upd_ne (ne_of hr hw (by intro z; cases z)), hr, fieldsD_names (setRow_name _ _ _ _)]
theorem RecNew.lay (h : RecNew H0 H ak ar bs) (hb : bs[k]? = some b) (hnd : (bs.map (·.name)).Nodup) (s0 : Same H0 H) : ∃ fl, H ar = some (.dK (fieldsD bs fl)) ∧ bs.length = fl.length ∧ H0 ar = none ∧
    ∀ (r : Addr) (ys : List V) (ts : List T), H r = none → Ths H ts ys → RecNew H0 (upd (upd H r (.lst ys)) ar (.dK (putK (fieldsD bs fl) (Sum.inl b.name) (.ref r)))) ak ar (putRow bs k ts) := by
  obtain ⟨fl, hk, hr, pf, nd, fr⟩ := h
  have hl := pr_len pf
  obtain ⟨a, ha, _⟩ := pr_get pf hb
  refine ⟨fl, hr, hl, fr ar (by simp), fun r ys ts hrn ht => ?_⟩
  obtain ⟨n1, n2⟩ := List.nodup_cons.mp nd
  obtain ⟨n3, n4⟩ := List.nodup_cons.mp n2
  have kfl := (List.getElem?_eq_some_iff.mp ha).1
  have thereF : ∀ c ∈ fl, ∃ o, H c = some o := fun c hc => by
    obtain ⟨j, hj⟩ := List.getElem?_of_mem hc
    obtain ⟨x, _, vs, z, _⟩ := pr_getR pf hj
    exact ⟨_, z⟩
  have rk : r ≠ ak := (ne_of_none hk hrn).symm
  have rr : r ≠ ar := (ne_of_none hr hrn).symm
  have rf : r ∉ fl := fun hc => by obtain ⟨o, e⟩ := thereF r hc; rw [hrn] at e; cases e
  have ka : ak ≠ ar := fun e => n1 (by simp [e])
  have hr1 : (upd H r (.lst ys)) ar = some (.dK (fieldsD bs fl)) := kp_n hr hrn
  have tu : Tups H (upd (upd H r (.lst ys)) ar (.dK (putK (fieldsD bs fl) (Sum.inl b.name) (.ref r)))) := (Tups.new hrn).trans (Tups.upd hr1 (by intro xs z; cases z))
  have hfk : (fieldsD bs fl)[k]? = some (Sum.inl b.name, V.ref a) := by
    unfold fieldsD
    rw [List.getElem?_map, List.getElem?_zip_eq_some.mpr (show bs[k]? = some (b, a).1 ∧ fl[k]? = some (b, a).2 from ⟨hb, ha⟩)]
    rfl
  refine ⟨fl.set k r, ?_, ?_, ?_, ?_, ?_⟩
  · rw [upd_ne ka, kp_n hk hrn, putRow_kinds]
  · rw [upd_same, putK_at (by rw [fieldsD_keys hl]; exact nd_keys hnd) hfk, fieldsD_set hl hb, fieldsD_names (putRow_name bs k ts)]
  · refine pr_of_get (by rw [List.length_set, ← hl]; have := congrArg List.length (putRow_name bs k ts); simpa using this) fun j x c hx hc => ?_
    rw [putRow_at] at hx
    rw [List.getElem?_set] at hc
    cases e : bs[j]? with
    | none => rw [e] at hx; cases hx
    | some y =>
      rw [e] at hx
      have hx : (if k = j then { y with row := ts } else y) = x := Option.some.inj hx
      by_cases z : k = j
      · subst z
        rw [if_pos rfl] at hx
        rw [if_pos rfl, if_pos kfl] at hc
        cases hc
        subst hx
        exact ⟨ys, by rw [upd_ne rr]; exact upd_same, Ths.keep tu ht⟩
      · rw [if_neg z] at hx hc
        subst hx
        obtain ⟨c2, hc2, q⟩ := pr_get pf e
        rw [hc] at hc2; cases hc2
        obtain ⟨vs, z1, z2⟩ := q
        have hcm := List.mem_of_getElem? hc
        have c1 : c ≠ ar := fun q => n3 (by rw [← q]; exact hcm)
        have c2 : c ≠ r := fun q => rf (by rw [← q]; exact hcm)
        exact ⟨vs, by rw [upd_ne c1, upd_ne c2]; exact z1, Ths.keep tu z2⟩
  · have sub : ∀ {z : Addr}, z ∈ fl.set k r → z ∈ fl ∨ z = r := fun hz => List.mem_or_eq_of_mem_set hz
    refine List.nodup_cons.mpr ⟨fun m => ?_, List.nodup_cons.mpr ⟨fun m => ?_, nodup_setA n4 rf⟩⟩
    · rcases List.mem_cons.mp m with q | q
      · exact ka q
      · rcases sub q with q | q
        · exact n1 (List.mem_cons_of_mem _ q)
        · exact rk q.symm
    · rcases sub m with q | q
      · exact n3 q
      · exact rr q.symm
  · intro c hc
    rcases List.mem_cons.mp hc with q | q
    · exact fr c (by simp [q])
    · rcases List.mem_cons.mp q with q | q
      · exact fr c (by simp [q])
      · rcases List.mem_or_eq_of_mem_set q with q | q
        · exact fr c (by simp [q])
        · rw [q]; exact s0.free hrn
end
end LW

/-! THE LAWS' defs: how boxes look -/
namespace LW
open PySem L2
/-- a thing as the law sees it -/
def lv : T → V
  | .non => .non
  | .num i => .int i
  | .box _ => .str "box"
theorem lv_flat (t : T) : flatV (lv t) = true := by cases t <;> rfl
theorem lv_eq (t t' : T) : eqV (lv t) (lv t') = decide (ren (fun _ => 0) t = ren (fun _ => 0) t') := by
  cases t with
  | non => cases t' <;> rfl
  | num i =>
    cases t' with
    | non => rfl
    | num j => rw [show eqV (lv (.num i)) (lv (.num j)) = decide (i = j) from eqV_int i j]; simp [ren]
    | box m => rfl
  | box n =>
    cases t' with
    | non => rfl
    | num j => rfl
    | box m => simp [lv, ren, eqV]
def lookV (b : Box) : List V := .str b.kind :: b.row.map lv
theorem look_items {H : Hp} (b c : Box) : ∃ e : Nat → Bool, (∀ (j : Nat) (x y : V), (lookV b)[j]? = some x → (lookV c)[j]? = some y → EqG H 8 x y (e j)) ∧ ((lookV b).length == (lookV c).length && (List.range (lookV b).length).all e) = decide ((b.kind, b.row.map (ren fun _ => 0)) = (c.kind, c.row.map (ren fun _ => 0))) := by
  have es : ∀ x y : Str, eqV (.str x) (.str y) = decide (x = y) := fun x y => by show (x == y) = _; by_cases z : x = y <;> simp [z]
  refine ⟨fun j => match j with | 0 => decide (b.kind = c.kind) | j + 1 => eT (b.row.map (ren fun _ => 0)) (c.row.map (ren fun _ => 0)) j, fun j x y hx hy => ?_, ?_⟩
  · rcases j with _ | j
    · cases hx; cases hy
      have g := EqG.flat (H := H) (n := 8) (v := .str b.kind) (u := .str c.kind) rfl rfl
      rw [es] at g
      exact g
    · have hx : (b.row.map lv)[j]? = some x := by simpa [lookV] using hx
      have hy : (c.row.map lv)[j]? = some y := by simpa [lookV] using hy
      rw [List.getElem?_map] at hx hy
      cases e1 : b.row[j]? with
      | none => rw [e1] at hx; cases hx
      | some t =>
        cases e2 : c.row[j]? with
        | none => rw [e2] at hy; cases hy
        | some t' =>
          rw [e1] at hx; rw [e2] at hy
          cases hx; cases hy
          show EqG H 8 (lv t) (lv t') (eT _ _ j)
          rw [eT_at j (ren (fun _ => 0) t) (ren (fun _ => 0) t') (by rw [List.getElem?_map, e1]; rfl) (by rw [List.getElem?_map, e2]; rfl), ← lv_eq]
          exact EqG.flat (lv_flat t) (lv_flat t')
  · unfold lookV
    rw [List.length_cons, List.length_cons, List.range_succ_eq_map, List.all_cons, List.all_map, List.length_map, List.length_map]
    have al := all_range (xs := b.row.map (ren fun _ => 0)) (ys := c.row.map (ren fun _ => 0)) eT_at
    rw [List.length_map, List.length_map] at al
    rw [show decide ((b.kind, b.row.map (ren fun _ => 0)) = (c.kind, c.row.map (ren fun _ => 0))) = (decide (b.kind = c.kind) && decide (b.row.map (ren fun _ => 0) = c.row.map (ren fun _ => 0))) by rw [← Bool.decide_and]; exact decide_eq_decide.mpr Prod.ext_iff, ← al]
    show ((b.row.length + 1 == c.row.length + 1) && (decide (b.kind = c.kind) && (List.range b.row.length).all (eT _ _))) = _
    by_cases z : b.row.length = c.row.length
    · rw [z, Nat.min_self]; simp
    · rw [show (b.row.length == c.row.length) = false from beq_false_of_ne z, show (b.row.length + 1 == c.row.length + 1) = false from beq_false_of_ne (by omega)]; simp
def spLook : Sp := fun vs H Q _ => ∃ (ak ar : Addr) (bs : List Box) (fl : List Addr) (i : Nat) (b : Box), vs = [.ref ak, .ref ar, .int b.name] ∧ H ak = some (.dK (kindsD bs)) ∧ RowAt H ar bs fl ∧ (bs.map (·.name)).Nodup ∧ bs[i]? = some b ∧ b.row.length ≤ 900 ∧ ∀ l H', Same H H' → H l = none → H' l = some (.lst (lookV b)) → Q (.ref l) H'
section
variable {P : Program} {w : World} {K : PySem.W.Frag} {mg : Str → Option Value} {base : Heap} {C : Addr}
theorem ok_f_law_look {n : Nat} {f : Addr} {fd : FuncData} (F : Fun K "_law_look" "_law_look" s_f_law_look f fd) (T : TX K mg C)  :
    FnOk P w K mg base CX0 (n + 1) f fd ["kinds", "rows", "name"] (spLook) := by
  refine F.ok sc_f_law_look (fun vs H Q E h => ?_) (fun cdv A outer s H vs Q E hr h => ?_)
  · obtain ⟨ak, ar, bs, fl, i, b, rfl, _⟩ := h
    rfl
  · obtain ⟨ak, ar, bs, fl, i, b, rfl, hk, ⟨hR, pf⟩, nd, hb, hrow, k⟩ := h
    have hu := hu_of hr
    refine ⟨_, (pss_cons (ps_set (i := 3) sc_f_law_look.nd rfl (Or.inl rfl) (pe_lst (pa_cons (pe_dget hu (pv 0) (pv 2) (fun _ _ => rfl)) pa_nil)))
      (pss_cons (ps_for PassesOwn.never rfl (pi_list (pe_dget hu (pv 1) (pv 2) (fun _ _ => rfl))) (pg_name (i := 4) sc_f_law_look.nd rfl (Or.inl rfl))
      (pss_cons (ps_if (pt_val (pe_callB call_isi (by rfl) T.g_isi PyProof.Rows.boot_isinstance (pa_cons (pv 4) (pa_cons (pe_bltn (v := .ty "tuple") (by rfl) T.g_tuple PyProof.Rows.boot_tuple rfl) pa_nil)))) (pss_one (ps_set (i := 4) sc_f_law_look.nd rfl (Or.inl rfl) pe_str)) pss_nil)
      (pss_one (ps_expr (pe_bm PySem.F.plainAttrs_list PySem.F.slot_list_append PySem.F.type_list_append mt_append (pv 3) (pa_cons (pv 4) pa_nil))))))
      (pss_one (ps_ret (pv 3))))), ?_⟩
    have hfl := pr_len pf
    obtain ⟨fa, hfa, vs, hv, htv⟩ := pr_get pf hb
    have gk : DGet H ak (.int b.name) (some (.str b.kind)) := by rw [← kindAt nd hb]; exact DGet.k (k := Sum.inl b.name) hk
    refine ⟨_, rfl, _, rfl, ak, .str b.kind, rfl, gk, by show 1 ≤ sizeLine; decide, fun l hl => ?_⟩
    have gr : DGet (upd H l (.lst [.str b.kind])) ar (.int b.name) (some (.ref fa)) := by rw [← rowAt hfl nd hb hfa]; exact DGet.k (k := Sum.inl b.name) (kp_n hR hl)
    refine ⟨_, rfl, _, rfl, ar, .ref fa, rfl, gr, fa, rfl, ⟨_, SqL.of (kp_n hv hl)⟩, ?_⟩
    refine for_list (K := K) (xs := vs) (fun j σ H' => ∃ v_thing, σ = [some (.ref ak), some (.ref ar), some (.int b.name), some (.ref l), v_thing] ∧ Same H H' ∧ H' l = some (.lst (.str b.kind :: (b.row.take j).map lv))) ?_ ?_ ?_ ?_
    · exact ⟨_, rfl, Same.new hl, upd_same⟩
    · rintro j σ H' _ ⟨_, rfl, s, _⟩
      exact SqL.of (s _ _ hv)
    · rintro j x σ H3 hx ⟨v, rfl, s3, hL3⟩
      obtain ⟨t, ht, tv⟩ := pr_getR htv hx
      have tv3 : isT H3 t x := tv.keep (Tups.of_same s3)
      have small : (V.str b.kind :: (b.row.take j).map lv).length < sizeLine := small1000 (by simp; omega)
      have go : ∀ H5, H5 = upd H3 l (.lst ((.str b.kind :: (b.row.take j).map lv) ++ [lv t])) → Same H H5 ∧ H5 l = some (.lst (.str b.kind :: (b.row.take (j + 1)).map lv)) := fun H5 e5 => by
        subst e5
        refine ⟨fun c o e => ?_, by rw [upd_same, take_sn ht, List.map_append]; rfl⟩
        rw [upd_ne (ne_of_none e hl)]; exact s3 _ _ e
      cases t with
      | non =>
        have e : x = .non := tv3
        subst e
        exact ⟨_, rfl, _, "tuple", _, false, rfl, .non, sub_nt K, _, rfl, iteF ⟨_, rfl, .inl ⟨rfl, _, SqL.of hL3⟩, _, rfl, l, _, _, rfl, rfl, hL3, small, _, rfl, go _ rfl⟩⟩
      | num i' =>
        have e : x = .int i' := tv3
        subst e
        exact ⟨_, rfl, _, "tuple", _, false, rfl, .int i', sub_it K, _, rfl, iteF ⟨_, rfl, .inl ⟨rfl, _, SqL.of hL3⟩, _, rfl, l, _, _, rfl, rfl, hL3, small, _, rfl, go _ rfl⟩⟩
      | box nn =>
        obtain ⟨bb, rfl, hbb⟩ := tv3
        exact ⟨_, rfl, _, "tuple", _, true, rfl, TyOf.tup hbb, kit_same _ _, _, rfl, iteT ⟨_, rfl, .inl ⟨rfl, _, SqL.of hL3⟩, _, rfl, l, _, _, rfl, rfl, hL3, small, _, rfl, go _ rfl⟩⟩
    · rintro σ H3 ⟨v, rfl, s3, hL3⟩
      rw [← pr_len htv, List.take_length] at hL3
      exact ⟨_, rfl, k l H3 s3 hl hL3⟩
end
end LW


/-! THE LAWS' defs: twins, shapes -/
namespace LW
open PySem L2
theorem menu3 (c d : Int) : ∃ (kd : Str) (sz : Int), atI [V.str "plain", V.str "pair", V.str "weak"] (c % 3) = some (V.str kd) ∧ atI [V.int (1 + d % 3), V.int 2, V.int 1] (c % 3) = some (V.int sz) ∧ (kd = "plain" ∨ kd = "weak" ∨ kd = "pair") ∧ 1 ≤ sz ∧ sz ≤ 8 ∧ sizeOf kd sz = sz := by
  have n1 : ¬ (("plain" : Str) = "weak") := by decide +kernel
  have n2 : ¬ (("plain" : Str) = "pair") := by decide +kernel
  have n3 : ¬ (("pair" : Str) = "weak") := by decide +kernel
  have : c % 3 = 0 ∨ c % 3 = 1 ∨ c % 3 = 2 := by omega
  rcases this with e | e | e
  · rw [e]; exact ⟨"plain", 1 + d % 3, rfl, rfl, .inl rfl, by omega, by omega, by unfold sizeOf; rw [if_neg n1, if_neg n2]⟩
  · rw [e]; exact ⟨"pair", 2, rfl, rfl, .inr (.inr rfl), by decide, by decide, by unfold sizeOf; rw [if_neg n3, if_pos rfl]⟩
  · rw [e]; exact ⟨"weak", 1, rfl, rfl, .inr (.inl rfl), by decide, by decide, by unfold sizeOf; rw [if_pos rfl]⟩
theorem mod_ok {many : Int} {bs : List Box} {f : Box → Box} (hok : ∀ b ∈ bs, BOk many b) (hf : ∀ b, BOk many b → BOk many (f b)) (k : Nat) : ∀ b ∈ bs.modify k f, BOk many b := fun b hb => by
  obtain ⟨j, hj⟩ := List.getElem?_of_mem hb
  rw [List.getElem?_modify] at hj
  cases e : bs[j]? with
  | none => rw [e] at hj; cases hj
  | some x =>
    rw [e] at hj
    have hx := hok x (List.mem_of_getElem? e)
    have hj : (if k = j then f x else x) = b := Option.some.inj hj
    split at hj
    · subst hj; exact hf x hx
    · subst hj; exact hx
section
variable {P : Program} {w : World} {K : PySem.W.Frag} {mg : Str → Option Value} {base : Heap} {C : Addr}
theorem bs_f_law_twin_0 : BlkScope (defScope s_f_law_twin) ["script", "many", "kinds", "rows", "kind", "size", "name", "cell"] (compScope ((asgVal (stAt (forBody (stAt (defBody s_f_law_twin) 4)) 1)))) "at" ["many", "script", "name"] [1, 0, 6] :=
  ⟨by rfl, by decide +kernel, by decide +kernel, by decide +kernel, by rfl, by decide +kernel, by rfl, by decide +kernel⟩
theorem bs_f_law_twin_1 : BlkScope (defScope s_f_law_twin) ["script", "many", "kinds", "rows", "kind", "size", "name", "cell"] (compScope ((asgVal (stAt (ifBody (stAt (defBody s_f_law_twin) 7)) 0)))) "at" [] [] :=
  ⟨by rfl, by decide +kernel, by decide +kernel, by decide +kernel, by rfl, by decide +kernel, by rfl, by decide +kernel⟩
theorem ok_f_law_twin {n : Nat} {f : Addr} {fd : FuncData} (F : Fun K "_law_twin" "_law_twin" s_f_law_twin f fd) (T : TX K mg C) (D_law_draw : DefOk P w K mg base n "_law_draw" ["script", "k"] (spDrawD K) [[]]) :
    FnOk P w K mg base CX0 (n + 1) f fd ["script", "many"] (spGraph K) := by
  obtain ⟨f_law_draw, fd_law_draw, n_law_draw, k_law_draw, J_law_draw, c_law_draw⟩ := D_law_draw
  refine F.ok sc_f_law_twin (fun vs H Q E h => ?_) (fun cdv A outer s H vs Q E hr h => ?_)
  · obtain ⟨a, ns, many, rfl, _⟩ := h
    rfl
  · obtain ⟨a, ns, many, rfl, hS, hm1, hm2, q⟩ := h
    have hu := hu_of hr
    refine ⟨_, (pss_cons (ps_set (i := 2) sc_f_law_twin.nd rfl (Or.inl rfl) pe_dnewK)
      (pss_cons (ps_set (i := 3) sc_f_law_twin.nd rfl (Or.inl rfl) pe_dnewK)
      (pss_cons (ps_set (i := 4) sc_f_law_twin.nd rfl (Or.inl rfl) (pe_ix ix_list (pe_lst (pa_cons pe_str (pa_cons pe_str (pa_cons pe_str pa_nil)))) (pe_op op_mod (pe_call J_law_draw hr (by rfl) n_law_draw k_law_draw (c_law_draw [] (by simp)) .nil pass0 (pa_cons (pv 0) (pa_cons pe_int pa_nil))) pe_int) (fun _ _ => rfl)))
      (pss_cons (ps_set (i := 5) sc_f_law_twin.nd rfl (Or.inl rfl) (pe_ix ix_list (pe_lst (pa_cons (pe_op op_add pe_int (pe_op op_mod (pe_call J_law_draw hr (by rfl) n_law_draw k_law_draw (c_law_draw [] (by simp)) .nil pass0 (pa_cons (pv 0) (pa_cons pe_int pa_nil))) pe_int)) (pa_cons pe_int (pa_cons pe_int pa_nil)))) (pe_op op_mod (pe_call J_law_draw hr (by rfl) n_law_draw k_law_draw (c_law_draw [] (by simp)) .nil pass0 (pa_cons (pv 0) (pa_cons pe_int pa_nil))) pe_int) (fun _ _ => rfl)))
      (pss_cons (ps_for PassesOwn.never rfl (pi_range2 (by rfl) T.g_range (pa_cons pe_int (pa_cons (pe_op op_add (pv 1) pe_int) pa_nil))) (pg_name (i := 6) sc_f_law_twin.nd rfl (Or.inr rfl))
      (pss_cons (ps_dput hu (pv 2) (pv 6) (pv 4) rfl)
      (pss_one (ps_dput hu (pv 3) (pv 6) (pe_comp bs_f_law_twin_0 rfl (pi_range1 (by rfl) T.g_range (pa_cons (pv 5) pa_nil)) (fun _ _ _ _ => pifs_nil) (fun _ _ _ _ => (pe_tup (pa_cons pe_str (pa_cons (pe_op op_add pe_int (pe_op op_mod (pe_call J_law_draw hr (by rfl) n_law_draw k_law_draw (c_law_draw [] (by simp)) .nil pass0 (pa_cons (pv 2) (pa_cons (pe_op op_add (pe_op op_mul pe_int (pv 3)) (pv 0)) pa_nil))) (pv 1))) pa_nil))))) rfl))))
      (pss_cons (ps_set (i := 7) sc_f_law_twin.nd rfl (Or.inl rfl) (pe_call J_law_draw hr (by rfl) n_law_draw k_law_draw (c_law_draw [] (by simp)) .nil pass0 (pa_cons (pv 0) (pa_cons pe_int pa_nil))))
      (pss_cons (ps_if (pt_cmpR op_eq (pe_op op_mod (pv 7) pe_int) pe_int (nomark _)) (pss_one (ps_asg (pe_op op_mod (pe_op op_fdiv (pv 7) pe_int) pe_int) (pg_sub (pe_dget hu (pv 3) (pe_op op_add pe_int (pe_op op_mod (pe_op op_fdiv (pv 7) pe_int) (pv 1))) (fun _ _ => rfl)) pe_int set_list))) pss_nil)
      (pss_cons (ps_if (pt_cmpR op_eq (pe_op op_mod (pv 7) pe_int) pe_int (nomark _)) (pss_one (ps_dput hu (pv 3) (pe_op op_add pe_int (pe_op op_mod (pe_op op_fdiv (pv 7) pe_int) (pv 1))) (pe_comp bs_f_law_twin_1 rfl (pi_range1 (by rfl) T.g_range (pa_cons (pv 5) pa_nil)) (fun _ _ _ _ => pifs_nil) (fun _ _ _ _ => pe_non)) rfl)) pss_nil)
      (pss_one (ps_ret (pe_tup (pa_cons (pv 2) (pa_cons (pv 3) pa_nil))))))))))))), ?_⟩
    refine fun ak hak => ?_
    refine fun ar har => ?_
    have hra : ar ≠ ak := fun e => by rw [e, upd_same] at har; cases har
    have har0 : H ar = none := (Same.new hak).free har
    have s0 : Same H (upd (upd H ak (.dK [])) ar (.dK [])) := (Same.new hak).trans (Same.new har)
    have ek0 : (upd (upd H ak (.dK [])) ar (.dK [])) ak = some (.dK []) := kp_n upd_same har
    have er0 : (upd (upd H ak (.dK [])) ar (.dK [])) ar = some (.dK []) := upd_same
    generalize upd (upd H ak (.dK [])) ar (.dK []) = H0 at s0 ek0 er0 ⊢
    have hS0 := hS.keep (Frz.of_same s0)
    obtain ⟨kd, sz, hk1, hk2, hkd, hz0, hz8, hsz⟩ := menu3 (drw ns 3) (drw ns 4)
    -- kind, size
    refine ⟨by show 3 ≤ sizeLine; decide, fun l1 hl1 => ⟨_, rfl, a, ns, 3, rfl, hS0.keep (Frz.new hl1), _, _, rfl, rfl, (by show (0 : Int) < 3; decide), l1, _, _, _, rfl, rfl, SqL.of upd_same, hk1, ?_⟩⟩
    have s1 := s0.trans (Same.new (o := .lst [V.str "plain", V.str "pair", V.str "weak"]) hl1)
    have ek1 := kp_n (o := .lst [V.str "plain", V.str "pair", V.str "weak"]) ek0 hl1
    have er1 := kp_n (o := .lst [V.str "plain", V.str "pair", V.str "weak"]) er0 hl1
    generalize upd H0 l1 (.lst [V.str "plain", V.str "pair", V.str "weak"]) = H1 at s1 ek1 er1 ⊢
    have hS1 := hS.keep (Frz.of_same s1)
    refine ⟨_, rfl, a, ns, 4, rfl, hS1, _, _, rfl, rfl, (by show (0 : Int) < 3; decide), _, _, rfl, rfl, by show 3 ≤ sizeLine; decide, fun l2 hl2 => ⟨_, rfl, a, ns, 3, rfl, hS1.keep (Frz.new hl2), _, _, rfl, rfl, (by show (0 : Int) < 3; decide), l2, _, _, _, rfl, rfl, SqL.of upd_same, hk2, ?_⟩⟩
    have s2 := s1.trans (Same.new (o := .lst [V.int (1 + drw ns 4 % 3), V.int 2, V.int 1]) hl2)
    have ek2 := kp_n (o := .lst [V.int (1 + drw ns 4 % 3), V.int 2, V.int 1]) ek1 hl2
    have er2 := kp_n (o := .lst [V.int (1 + drw ns 4 % 3), V.int 2, V.int 1]) er1 hl2
    generalize upd H1 l2 (.lst [V.int (1 + drw ns 4 % 3), V.int 2, V.int 1]) = H2 at s2 ek2 er2 ⊢
    refine ⟨_, rfl, _, _, rfl, rfl, 1, many + 1, rfl, ⟨by decide, by decide, by omega, by omega⟩, ?_⟩
    have em : (many + 1 - 1).toNat = many.toNat := by omega
    rw [em]
    refine for_range (lo := 1) (n := many.toNat) (fun i σ H' => ∃ v_name v_cell, σ = [some (.ref a), some (.int many), some (.ref ak), some (.ref ar), some (.str kd), some (.int sz), v_name, v_cell] ∧ Same H H' ∧
      ∃ bs, RecNew H H' ak ar bs ∧ bs.map (·.name) = intsUp 1 i ∧ ∀ b ∈ bs, BOk many b ∧ (b.row.length : Int) = sz) ?_ ?_ ?_
    · refine ⟨_, _, rfl, s2, [], ⟨[], ek2, er2, .nil, by simp [hra.symm], ?_⟩, rfl, by simp⟩
      intro b hb
      have hb : b = ak ∨ b = ar := by simpa using hb
      rcases hb with rfl | rfl
      · exact hak
      · exact har0
    · rintro i σ H1 hi ⟨v1, v2, rfl, s1, bs, hR, hnm, hok⟩
      have hR0 := hR
      obtain ⟨fl, e1, e2, pf, nd, fr⟩ := hR
      have hl := pr_len pf
      have hbl : bs.length = i := by have := congrArg List.length hnm; rw [intsUp_length] at this; simpa using this
      have hout : (1 + (i : Int)) ∉ bs.map (·.name) := by rw [hnm, intsUp_mem]; omega
      refine ⟨_, rfl, _, rfl, _, rfl, ak, _, rfl, DPut.k (k := Sum.inl (1 + (i : Int))) e1 (by simp only [kindsD, List.length_map]; exact small1000 (by omega)), ?_⟩
      generalize eH2 : upd H1 ak (.dK (putK (kindsD bs) (Sum.inl (1 + (i : Int))) (.str kd))) = H2
      have sH2 : Same H H2 := fun b o e => by rw [← eH2, upd_ne (ne_of_none e hak)]; exact s1 _ _ e
      refine ⟨_, rfl, sz, rfl, by omega, by omega, ?_⟩
      refine comp_range (lo := 0) (n := sz.toNat) (fun j ys H' => Same H2 H' ∧ ∃ ts, Ths H' ts ys ∧ ts.length = j ∧ ∀ t ∈ ts, TOk many t) ⟨Same.refl _, [], .nil, rfl, by simp⟩ ?_ (len_small (by omega)) ?_ ?_
      · rintro j ys H' ⟨_, ts, ht, hj, _⟩
        rw [← pr_len ht, hj]; exact Nat.le_refl _
      · rintro j ys H' hj ⟨s4, ts, ht, htl, hts⟩
        dsimp only [tNoIf]
        have hS4 := (hS.keep (Frz.of_same sH2)).keep (Frz.of_same s4)
        refine iteT ⟨_, rfl, _, rfl, _, _, rfl, rfl, .inl ⟨by decide, by decide⟩, _, rfl, _, _, rfl, rfl, a, ns, _, rfl, hS4, _, rfl, _, _, rfl, rfl, (by show (0 : Int) < many; omega), _, _, rfl, rfl, by show 2 ≤ sizeLine; decide, fun tp htp => ?_⟩
        have h1 := Int.emod_nonneg (drw ns (10 * (1 + (i : Int)) + (0 + (j : Int)))) (show many ≠ 0 by omega)
        have h2 := Int.emod_lt_of_pos (drw ns (10 * (1 + (i : Int)) + (0 + (j : Int)))) (show (0 : Int) < many by omega)
        refine ⟨s4.trans (Same.new htp), ts ++ [.box (1 + drw ns (10 * (1 + (i : Int)) + (0 + (j : Int))) % many)], pr_app (Ths.keep (Tups.new htp) ht) (.cons (show isT _ (.box (1 + drw ns (10 * (1 + (i : Int)) + (0 + (j : Int))) % many)) (.ref tp) from ⟨tp, rfl, upd_same⟩) .nil), by simp [htl], fun x hx => ?_⟩
        rcases List.mem_append.mp hx with z | z
        · exact hts x z
        · rw [List.mem_singleton.mp z]; exact ⟨by omega, by omega⟩
      · rintro ys H4 ⟨s4, ts, ht, htl, hts⟩ r hr4
        have r2 : H2 ar = some (.dK (fieldsD bs fl)) := by rw [← eH2, upd_ne hra]; exact e2
        have s34 : Same H2 (upd H4 r (.lst ys)) := s4.trans (Same.new hr4)
        refine ⟨_, rfl, _, rfl, ar, _, rfl, DPut.k (k := Sum.inl (1 + (i : Int))) (s34 _ _ r2) (by rw [fieldsD, List.length_map, List.length_zip]; exact small1000 (by omega)), ?_⟩
        refine ⟨_, _, rfl, fun b o e => ?_, bs ++ [⟨1 + (i : Int), kd, ts⟩], ?_, ?_, ?_⟩
        · rw [upd_ne (ne_of_none e har0)]; exact s34 _ _ (sH2 _ _ e)
        · refine hR0.snoc (b := ⟨1 + (i : Int), kd, ts⟩) (a := r) (Same.refl _) hout eH2.symm s34 ⟨ys, upd_same, Ths.keep (Tups.new hr4) ht⟩ (s4.free hr4) sH2 fun fl' h => ?_
          rw [HO.dK.inj (Option.some.inj (h.symm.trans (s34 _ _ r2)))]
        · rw [List.map_append, hnm, intsUp_snoc]; rfl
        · intro b hb
          rcases List.mem_append.mp hb with z | z
          · exact hok b z
          · rw [List.mem_singleton.mp z]
            exact ⟨⟨hkd, by show sizeOf kd (ts.length : Int) = (ts.length : Int); rw [show (ts.length : Int) = sz by omega]; exact hsz, by show ts.length ≤ 8; omega, hts⟩, by show (ts.length : Int) = sz; omega⟩
    · rintro σ H1 ⟨v1, v2, rfl, s1, bs, hR, hnm, hok⟩
      have hbl : bs.length = many.toNat := by have := congrArg List.length hnm; rw [intsUp_length] at this; simpa using this
      have hnd : (bs.map (·.name)).Nodup := by rw [hnm]; exact (intsUp_asc _ _).imp fun z => Int.ne_of_lt z
      refine ⟨_, rfl, a, ns, 9, rfl, hS.keep (Frz.of_same s1), ?_⟩
      generalize drw ns 9 = c
      have h1 := Int.emod_nonneg (c / 3) (show many ≠ 0 by omega)
      have h2 := Int.emod_lt_of_pos (c / 3) (show (0 : Int) < many by omega)
      obtain ⟨k, hk⟩ : ∃ k : Nat, c / 3 % many = (k : Int) := ⟨(c / 3 % many).toNat, by omega⟩
      have hkl : k < bs.length := by omega
      obtain ⟨b, hb⟩ : ∃ b, bs[k]? = some b := ⟨_, List.getElem?_eq_getElem hkl⟩
      have hbn : b.name = 1 + (k : Int) := (name_at (n := many.toNat) hnm hb).1
      have hbok := hok b (List.mem_of_getElem? hb)
      have hok' : ∀ b ∈ bs, BOk many b := fun b hb => (hok b hb).1
      refine ⟨_, rfl, _, _, rfl, rfl, (by show (0 : Int) < 3; decide), rfl, _, rfl, ite2 (fun h0 => ?_) (fun h0 => ?_)⟩
      · have h0 : c % 3 = 0 := V.int.inj (of_decide_eq_true h0)
        obtain ⟨fl, fa, ws, hr1, hl1, hfa, hw, htw, hfa0, fin⟩ := hR.put hb
        have hg : DGet H1 ar (.int (1 + c / 3 % many)) (some (.ref fa)) := by rw [hk, ← hbn, ← rowAt hl1 hnd hb hfa]; exact DGet.k (k := Sum.inl b.name) hr1
        refine ⟨_, rfl, _, _, rfl, rfl, ⟨by decide, by decide⟩, _, _, rfl, rfl, (by show (0 : Int) < 2; decide), _, rfl, _, rfl, _, _, rfl, rfl, ⟨by decide, by decide⟩, _, rfl, _, _, rfl, rfl, (by show (0 : Int) < many; omega), _, _, rfl, rfl, ar, .ref fa, rfl, hg, fa, ws, 0, 0, rfl, rfl, hw, ixN_nat (j := 0) (by rw [← pr_len htw]; omega), ?_⟩
        have hR2 := fin (.num (c / 60 % 2)) (.int (c / 60 % 2)) 0 rfl
        have s2 : Same H (upd H1 fa (.lst (ws.set 0 (.int (c / 60 % 2))))) := fun x o e => by rw [upd_ne (ne_of_none e hfa0)]; exact s1 _ _ e
        dsimp only
        generalize upd H1 fa (.lst (ws.set 0 (.int (c / 60 % 2)))) = H2 at hR2 s2 ⊢
        refine ⟨_, rfl, _, _, rfl, rfl, (by show (0 : Int) < 3; decide), rfl, _, rfl, iteB (decide_eq_false fun z => ?_) ⟨_, rfl, _, rfl, by show 2 ≤ sizeLine; decide, fun m hm => ?_⟩⟩
        · have := V.int.inj z; have z : c % 3 = 1 := this; omega
        · have e60 : 0 ≤ c / 60 % 2 ∧ c / 60 % 2 < 2 := by omega
          refine q m ak ar _ _ (s2.trans (Same.new hm)) upd_same (hR2.same (Same.new hm)) ((setRow_name _ _ _ _).trans hnm) (mod_ok hok' (fun x hx => hx.row (by rw [List.length_set]) fun t ht => ?_) k)
          rcases List.mem_or_eq_of_mem_set ht with z | z
          · exact hx.ts t z
          · rw [z]
            have : (2 : Int) < 10 ^ 40 := by decide
            exact ⟨by omega, by omega⟩
      · refine ⟨_, rfl, _, _, rfl, rfl, (by show (0 : Int) < 3; decide), rfl, _, rfl, ite2 (fun h1' => ?_) (fun h1' => ?_)⟩
        · refine ⟨_, rfl, sz, rfl, by omega, by omega, ?_⟩
          refine comp_range (lo := 0) (n := sz.toNat) (fun j ys H' => H' = H1 ∧ ys = List.replicate j V.non) ⟨rfl, rfl⟩ ?_ (len_small (by omega)) ?_ ?_
          · rintro j ys H' ⟨_, rfl⟩
            simp
          · rintro j ys H' hj ⟨rfl, rfl⟩
            dsimp only [tNoIf]
            refine iteT ⟨rfl, ?_⟩
            rw [List.replicate_succ']
          rintro ys H2 ⟨rfl, rfl⟩ r hr2
          obtain ⟨fl, hr1, hl1, har1, fin⟩ := hR.lay hb hnd s1
          have e1k : 1 + c / 3 % many = b.name := by rw [hbn, hk]
          refine ⟨_, rfl, _, rfl, _, _, rfl, rfl, ⟨by decide, by decide⟩, _, rfl, _, _, rfl, rfl, (by show (0 : Int) < many; omega), _, _, rfl, rfl, ar, _, rfl, by show DPut _ ar (.int (1 + c / 3 % many)) _ _; rw [e1k]; exact DPut.k (k := Sum.inl b.name) (kp_n hr1 hr2) (by rw [fieldsD, List.length_map, List.length_zip]; exact small1000 (by omega)), ?_⟩
          have hR2 := fin r (List.replicate sz.toNat .non) (List.replicate sz.toNat .non) hr2 (pr_rep (show isT _ .non .non from rfl) _)
          have s2 : Same H (upd (upd H2 r (.lst (List.replicate sz.toNat .non))) ar (.dK (putK (fieldsD bs fl) (Sum.inl b.name) (.ref r)))) := fun x o e => by rw [upd_ne (ne_of_none e har1)]; exact kp_n (s1 _ _ e) hr2
          generalize upd (upd H2 r (.lst (List.replicate sz.toNat .non))) ar (.dK (putK (fieldsD bs fl) (Sum.inl b.name) (.ref r))) = H3 at hR2 s2 ⊢
          refine ⟨_, rfl, _, rfl, by show 2 ≤ sizeLine; decide, fun m hm => ?_⟩
          refine q m ak ar _ _ (s2.trans (Same.new hm)) upd_same (hR2.same (Same.new hm)) ((putRow_name _ _ _).trans hnm) ?_
          intro x hx
          obtain ⟨j, hj⟩ := List.getElem?_of_mem hx
          rw [putRow_at] at hj
          cases e : bs[j]? with
          | none => rw [e] at hj; cases hj
          | some y =>
            rw [e] at hj
            have hy := hok y (List.mem_of_getElem? e)
            have hj : (if k = j then { y with row := List.replicate sz.toNat .non } else y) = x := Option.some.inj hj
            split at hj
            · subst hj
              refine hy.1.row (by rw [List.length_replicate]; omega) fun t ht => ?_
              rw [List.eq_of_mem_replicate ht]; trivial
            · subst hj; exact hy.1
        · refine ⟨_, rfl, _, rfl, by show 2 ≤ sizeLine; decide, fun m hm => ?_⟩
          exact q m ak ar bs _ (s1.trans (Same.new hm)) upd_same (hR.same (Same.new hm)) hnm hok'
theorem ok_f_law_either {n : Nat} {f : Addr} {fd : FuncData} (F : Fun K "_law_either" "_law_either" s_f_law_either f fd) (T : TX K mg C) (D_law_draw : DefOk P w K mg base n "_law_draw" ["script", "k"] (spDrawD K) [[]])
    (D_law_twin : DefOk P w K mg base n "_law_twin" ["script", "many"] (spGraph K) [[]])
    (D_law_graph : DefOk P w K mg base n "_law_graph" ["script", "many"] (spGraph K) [[]]) :
    FnOk P w K mg base CX0 (n + 1) f fd ["script", "many"] (spGraph K) := by
  obtain ⟨f_law_draw, fd_law_draw, n_law_draw, k_law_draw, J_law_draw, c_law_draw⟩ := D_law_draw
  obtain ⟨f_law_twin, fd_law_twin, n_law_twin, k_law_twin, J_law_twin, c_law_twin⟩ := D_law_twin
  obtain ⟨f_law_graph, fd_law_graph, n_law_graph, k_law_graph, J_law_graph, c_law_graph⟩ := D_law_graph
  refine F.ok sc_f_law_either (fun vs H Q E h => ?_) (fun cdv A outer s H vs Q E hr h => ?_)
  · obtain ⟨a, ns, many, rfl, _⟩ := h
    rfl
  · obtain ⟨a, ns, many, rfl, hS, hm1, hm2, q⟩ := h
    have hu := hu_of hr
    refine ⟨_, (pss_cons (ps_if (pt_cmpR op_eq (pe_op op_mod (pe_call J_law_draw hr (by rfl) n_law_draw k_law_draw (c_law_draw [] (by simp)) .nil pass0 (pa_cons (pv 0) (pa_cons pe_int pa_nil))) pe_int) pe_int (nomark _)) (pss_one (ps_ret (pe_call J_law_twin hr (by rfl) n_law_twin k_law_twin (c_law_twin [] (by simp)) .nil pass0 (pa_cons (pv 0) (pa_cons (pv 1) pa_nil))))) pss_nil)
      (pss_one (ps_ret (pe_call J_law_graph hr (by rfl) n_law_graph k_law_graph (c_law_graph [] (by simp)) .nil pass0 (pa_cons (pv 0) (pa_cons (pv 1) pa_nil)))))), ?_⟩
    refine ⟨_, rfl, a, ns, 2, rfl, hS, _, _, rfl, rfl, (by show (0 : Int) < 2; decide), rfl, _, rfl, ite2 (fun _ => ?_) (fun _ => ?_)⟩
    · exact ⟨_, rfl, _, rfl, a, ns, many, rfl, hS, hm1, hm2, q⟩
    · exact ⟨_, rfl, _, rfl, a, ns, many, rfl, hS, hm1, hm2, q⟩
theorem RowL.ne {H : Hp} {r : Row} {a lm : Addr} {as : List Addr} (h : RowL H r a) (hm : H lm = some (.lst (as.map V.ref))) : a ≠ lm := fun e => by
  subst e
  obtain ⟨vs, h1, _⟩ := h
  rw [hm] at h1
  have h1 := HO.lst.inj (Option.some.inj h1)
  cases as with
  | nil => cases h1
  | cons x r => cases h1
end
end LW


/-! PAIRS: the road from one pair to another; how long a road is -/
namespace LW
open PySem L2
/-- the road leads from the pair to the pair, and all pairs ahead of its end look alike -/
inductive Goes (bs : List Box) : Pr → List Nat → Pr → Prop
  | nil (p : Pr) : Goes bs p [] p
  | cons {p p' q : Pr} {k : Nat} {r : List Nat} : lk bs p.1 = lk bs p.2 → (k, p') ∈ stepsOf bs p → Goes bs p' r q → Goes bs p (k :: r) q
theorem Goes.snoc {bs : List Box} {p q q' : Pr} {r : List Nat} {k : Nat} (h : Goes bs p r q) (hl : lk bs q.1 = lk bs q.2) (hs : (k, q') ∈ stepsOf bs q) : Goes bs p (r ++ [k]) q' := by
  induction h with
  | nil p => exact .cons hl hs (.nil _)
  | cons h1 h2 _ ih => exact .cons h1 h2 (ih hl hs)
theorem addP_goes {bs : List Box} {p0 : Pr} {e : En} (he : Goes bs p0 e.rd e.pr) (hl : lk bs e.pr.1 = lk bs e.pr.2) : ∀ (st : List (Nat × Pr)) (es : List En), (∀ s ∈ st, s ∈ stepsOf bs e.pr) → (∀ x ∈ es, Goes bs p0 x.rd x.pr) → ∀ x ∈ addP es e st, Goes bs p0 x.rd x.pr
  | [], _, _, h, x, hx => h x hx
  | s :: st, es, hs, h, x, hx => by
    have hx : x ∈ addP (if s.2 ∈ es.map (·.pr) then es else es ++ [⟨s.2, some (e.pr, s.1), e.rd ++ [s.1]⟩]) e st := hx
    refine addP_goes he hl st _ (fun y hy => hs y (List.mem_cons_of_mem _ hy)) (fun y hy => ?_) x hx
    by_cases z : s.2 ∈ es.map (·.pr)
    · rw [if_pos z] at hy; exact h y hy
    · rw [if_neg z] at hy
      rcases List.mem_append.mp hy with w | w
      · exact h y w
      · have := List.mem_singleton.mp w
        subst this
        exact he.snoc hl (hs s List.mem_cons_self)
theorem apRun_goes {bs : List Box} {p0 : Pr} : ∀ (f : Nat) (es : List En) (k : Nat) (r : List Nat), (∀ x ∈ es, Goes bs p0 x.rd x.pr) → apRun bs f es k = some r → ∃ q, Goes bs p0 r q ∧ lk bs q.1 ≠ lk bs q.2
  | 0, _, _, _, _, h => by cases h
  | f + 1, es, k, r, hM, h => by
    cases he : es[k]? with
    | none => rw [apRun_none he] at h; cases h
    | some e =>
      rw [apRun_some he] at h
      have hle := hM e (List.mem_of_getElem? he)
      by_cases z : lk bs e.pr.1 = lk bs e.pr.2
      · rw [if_pos z] at h
        exact apRun_goes f _ _ r (addP_goes hle z _ _ (fun _ w => w) hM) h
      · rw [if_neg z] at h
        cases h
        exact ⟨e.pr, hle, z⟩
theorem stepsAt_mem : ∀ (k : Nat) (ts us : List T) (s : Nat × Pr), s ∈ stepsAt k ts us → ∃ i, s.1 = k + i ∧ ts[i]? = some (.box s.2.1) ∧ us[i]? = some (.box s.2.2)
  | k, [], _, s, h => by simp [stepsAt] at h
  | k, t :: ts, [], s, h => by cases t <;> simp [stepsAt] at h
  | k, t :: ts, u :: us, s, h => by
    have ih : s ∈ stepsAt (k + 1) ts us → ∃ i, s.1 = k + i ∧ (t :: ts)[i]? = some (.box s.2.1) ∧ (u :: us)[i]? = some (.box s.2.2) := fun z => by
      obtain ⟨i, h1, h2, h3⟩ := stepsAt_mem (k + 1) ts us s z
      exact ⟨i + 1, by omega, by simpa using h2, by simpa using h3⟩
    cases t <;> cases u <;> first | exact ih h | skip
    rcases List.mem_cons.mp h with z | z
    · subst z; exact ⟨0, rfl, rfl, rfl⟩
    · exact ih z
end LW

/-! THE LAWS' defs: whether all pairs look alike; where a road leads -/
namespace LW
open PySem L2
def trues (es : List En) : List V := es.map fun _ => V.bl true
structure CpSt (H0 H : Hp) (d lq : Addr) (N : List Int) (es : List En) (qs : List Addr) : Prop where
  same : Same H0 H
  sn : H d = some (.dT (keyed es (trues es)))
  ql : H lq = some (.lst (qs.map V.ref))
  qa : Paired (PairA H) es qs
  ok : EsOk N es
theorem CpSt.mono {H0 H H' : Hp} {d lq : Addr} {N : List Int} {es : List En} {qs : List Addr} (s : Same H H') (h : CpSt H0 H d lq N es qs) : CpSt H0 H' d lq N es qs :=
  ⟨h.same.trans s, s _ _ h.sn, s _ _ h.ql, pr_imp (fun _ _ _ _ z => s _ _ z) h.qa, h.ok⟩
def spMidD (K : PySem.W.Frag) : Sp := fun vs H Q _ => ∃ (a : Addr) (ns : List Int), vs = [.ref a] ∧ Scr K H a ns ∧ ∀ many, 1 ≤ many → many ≤ 14 → Q (.int many) H
def spClose : Sp := fun vs H Q _ => ∃ (ak ar : Addr) (bs : List Box) (fl : List Addr) (n m : Int), vs = [.ref ak, .ref ar, .int n, .int m] ∧ H ak = some (.dK (kindsD bs)) ∧ RowAt H ar bs fl ∧ (bs.map (·.name)).Nodup ∧ n ∈ bs.map (·.name) ∧ m ∈ bs.map (·.name) ∧ Closed bs ∧ bs.length ≤ 30 ∧ apRes bs n m = none ∧ ∀ H', Same H H' → Q (.bl true) H'
def clMu : St → Nat
  | [_, _, _, _, _, _, some (.int k), _, _, _, _] => (901 - k).toNat
  | _ => 0
section
variable {P : Program} {w : World} {K : PySem.W.Frag} {mg : Str → Option Value} {base : Heap} {C : Addr}
theorem ok_f_law_mid {n : Nat} {f : Addr} {fd : FuncData} (F : Fun K "_law_mid" "_law_mid" s_f_law_mid f fd) (T : TX K mg C) (D_law_cell_at : DefOk P w K mg base n "_law_cell_at" ["script", "k"] (spCellD K) [[]]) :
    FnOk P w K mg base CX0 (n + 1) f fd ["script"] (spMidD K) := by
  obtain ⟨f_law_cell_at, fd_law_cell_at, n_law_cell_at, k_law_cell_at, J_law_cell_at, c_law_cell_at⟩ := D_law_cell_at
  refine F.ok sc_f_law_mid (fun vs H Q E h => ?_) (fun cdv A outer s H vs Q E hr h => ?_)
  · obtain ⟨a, ns, rfl, _⟩ := h
    rfl
  · obtain ⟨a, ns, rfl, hS, q⟩ := h
    have hu := hu_of hr
    refine ⟨_, (pss_cons (ps_set (i := 1) sc_f_law_mid.nd rfl (Or.inl rfl) (pe_call J_law_cell_at hr (by rfl) n_law_cell_at k_law_cell_at (c_law_cell_at [] (by simp)) .nil pass0 (pa_cons (pv 0) (pa_cons pe_int pa_nil))))
      (pss_cons (ps_if (pt_cmpR op_eq (pe_op op_mod (pv 1) pe_int) pe_int (nomark _)) (pss_one (ps_ret (pe_op op_add pe_int (pe_op op_mod (pe_op op_fdiv (pv 1) pe_int) pe_int)))) pss_nil)
      (pss_one (ps_ret (pe_op op_add pe_int (pe_op op_mod (pv 1) pe_int)))))), ?_⟩
    refine ⟨_, rfl, a, ns, 0, rfl, hS, by decide, ?_⟩
    refine ⟨_, rfl, _, _, rfl, rfl, (by show (0 : Int) < 7; decide), rfl, _, rfl, ite2 (fun _ => ?_) (fun _ => ?_)⟩
    · refine ⟨_, rfl, _, _, rfl, rfl, ⟨by decide, by decide⟩, _, _, rfl, rfl, (by show (0 : Int) < 14; decide), _, _, rfl, rfl, q _ (by omega) (by omega)⟩
    · refine ⟨_, rfl, _, _, rfl, rfl, (by show (0 : Int) < 7; decide), _, _, rfl, rfl, q _ (by omega) (by omega)⟩
theorem ok_f_law_close {n : Nat} {f : Addr} {fd : FuncData} (F : Fun K "_law_close" "_law_close" s_f_law_close f fd) (T : TX K mg C) (D_law_look : DefOk P w K mg base n "_law_look" ["kinds", "rows", "name"] (spLook) [[]]) :
    FnOk P w K mg base CX0 (n + 1) f fd ["kinds", "rows", "one", "other"] (spClose) := by
  obtain ⟨f_law_look, fd_law_look, n_law_look, k_law_look, J_law_look, c_law_look⟩ := D_law_look
  refine F.ok sc_f_law_close (fun vs H Q E h => ?_) (fun cdv A outer s H vs Q E hr h => ?_)
  · obtain ⟨ak, ar, bs, fl, n0, m0, rfl, _⟩ := h
    rfl
  · obtain ⟨ak, ar, bs, fl, n0, m0, rfl, hk, ⟨hR, pf⟩, nd, hn, hm, hcl, few, hnon, kN⟩ := h
    have hu := hu_of hr
    refine ⟨_, (pss_cons (ps_set (i := 4) sc_f_law_close.nd rfl (Or.inl rfl) (pe_lst (pa_cons (pe_tup (pa_cons (pv 2) (pa_cons (pv 3) pa_nil))) pa_nil)))
      (pss_cons (ps_set (i := 5) sc_f_law_close.nd rfl (Or.inl rfl) (pe_dispT hu (pe_tup (pa_cons (pv 2) (pa_cons (pv 3) pa_nil))) pe_bl))
      (pss_cons (ps_set (i := 6) sc_f_law_close.nd rfl (Or.inl rfl) pe_int)
      (pss_cons (ps_while PassesOwn.never (pt_cmpR op_lt (pv 6) (pe_callB call_len_seq (by rfl) T.g_len PySem.boot_len (pa_cons (pv 4) pa_nil)) (nomark _))
      (pss_cons (ps_set (i := 7) sc_f_law_close.nd rfl (Or.inl rfl) (pe_ix ix_tup (pe_ix ix_list (pv 4) (pv 6) (fun _ _ => rfl)) pe_int (fun _ _ => rfl)))
      (pss_cons (ps_set (i := 8) sc_f_law_close.nd rfl (Or.inl rfl) (pe_ix ix_tup (pe_ix ix_list (pv 4) (pv 6) (fun _ _ => rfl)) pe_int (fun _ _ => rfl)))
      (pss_cons (ps_if (pt_cmpR (op_neG hr.units) (pe_call J_law_look hr (by rfl) n_law_look k_law_look (c_law_look [] (by simp)) .nil pass0 (pa_cons (pv 0) (pa_cons (pv 1) (pa_cons (pv 7) pa_nil)))) (pe_call J_law_look hr (by rfl) n_law_look k_law_look (c_law_look [] (by simp)) .nil pass0 (pa_cons (pv 0) (pa_cons (pv 1) (pa_cons (pv 8) pa_nil)))) (nomark _)) (pss_one (ps_ret pe_bl)) pss_nil)
      (pss_cons (ps_for PassesOwn.never rfl (pi_enum (by rfl) T.g_enumerate (pa_cons (pe_dget hu (pv 1) (pv 7) (fun _ _ => rfl)) pa_nil)) (pg_pair rfl sc_f_law_close.nd (i := 9) (j := 10) rfl rfl (Or.inl rfl) (Or.inl rfl))
      (pss_one (ps_if (PW.pt (pw_and (pt_val (pe_callB call_isi (by rfl) T.g_isi PyProof.Rows.boot_isinstance (pa_cons (pv 10) (pa_cons (pe_bltn (v := .ty "tuple") (by rfl) T.g_tuple PyProof.Rows.boot_tuple rfl) pa_nil)))) (pw_and1 (pt_cmp (pc_dnotin hu (pe_tup (pa_cons (pe_ix ix_tup (pv 10) pe_int (fun _ _ => rfl)) (pa_cons (pe_ix ix_tup (pe_ix ix_list (pe_dget hu (pv 1) (pv 8) (fun _ _ => rfl)) (pv 9) (fun _ _ => rfl)) pe_int (fun _ _ => rfl)) pa_nil))) (pv 5)))))) (pss_cons (ps_dput hu (pv 5) (pe_tup (pa_cons (pe_ix ix_tup (pv 10) pe_int (fun _ _ => rfl)) (pa_cons (pe_ix ix_tup (pe_ix ix_list (pe_dget hu (pv 1) (pv 8) (fun _ _ => rfl)) (pv 9) (fun _ _ => rfl)) pe_int (fun _ _ => rfl)) pa_nil))) pe_bl rfl)
      (pss_one (ps_expr (pe_bm PySem.F.plainAttrs_list PySem.F.slot_list_append PySem.F.type_list_append mt_append (pv 4) (pa_cons (pe_tup (pa_cons (pe_ix ix_tup (pv 10) pe_int (fun _ _ => rfl)) (pa_cons (pe_ix ix_tup (pe_ix ix_list (pe_dget hu (pv 1) (pv 8) (fun _ _ => rfl)) (pv 9) (fun _ _ => rfl)) pe_int (fun _ _ => rfl)) pa_nil))) pa_nil))))) pss_nil)))
      (pss_one (ps_set (i := 6) sc_f_law_close.nd rfl (Or.inl rfl) (pe_op op_add (pv 6) pe_int))))))))
      (pss_one (ps_ret pe_bl)))))), ?_⟩
    have tk : ∀ (p : Pr), (keyOf p).map kV = [V.int p.1, V.int p.2] := fun _ => rfl
    have hfl := pr_len pf
    have nsq : bs.length * bs.length ≤ 900 := Nat.le_trans (Nat.mul_le_mul few few) (by decide)
    refine ⟨_, rfl, _, rfl, by show 2 ≤ sizeLine; decide, fun b1 hb1 => ⟨by show 1 ≤ sizeLine; decide, fun lq hlq => ?_⟩⟩
    have s1 := (Same.new (o := .tup [.int n0, .int m0]) hb1).trans (Same.new (o := .lst [.ref b1]) hlq)
    have hlq0 : H lq = none := (Same.new hb1).free hlq
    have qa1 : PairA (upd (upd H b1 (.tup [.int n0, .int m0])) lq (.lst [.ref b1])) ⟨(n0, m0), none, []⟩ b1 := kp_n upd_same hlq
    have ql1 : (upd (upd H b1 (.tup [.int n0, .int m0])) lq (.lst [.ref b1])) lq = some (.lst [.ref b1]) := upd_same
    generalize upd (upd H b1 (.tup [.int n0, .int m0])) lq (.lst [.ref b1]) = H1 at s1 qa1 ql1 ⊢
    refine fun d hd => ?_
    refine ⟨_, rfl, _, rfl, by show 2 ≤ sizeLine; decide, fun b2 hb2 => ⟨kp_n upd_same hb2, b2, keyOf (n0, m0), rfl, upd_same, ?_⟩⟩
    have hd0 : H d = none := s1.free hd
    have s2 : Same H1 (upd (upd (upd H1 d (.dT [])) b2 (.tup ((keyOf (n0, m0)).map kV))) d (.dT [(keyOf (n0, m0), .bl true)])) := fun x o e => by
      rw [upd_ne (ne_of_none e hd), upd_ne (ne_of_none (kp_n (o := .dT []) e hd) hb2), upd_ne (ne_of_none e hd)]; exact e
    have hd2 : (upd (upd (upd H1 d (.dT [])) b2 (.tup ((keyOf (n0, m0)).map kV))) d (.dT [(keyOf (n0, m0), .bl true)])) d = some (.dT [(keyOf (n0, m0), .bl true)]) := upd_same
    show tSeq _ _ _ _ (upd (upd (upd H1 d (.dT [])) b2 (.tup ((keyOf (n0, m0)).map kV))) d (.dT [(keyOf (n0, m0), .bl true)]))
    generalize upd (upd (upd H1 d (.dT [])) b2 (.tup ((keyOf (n0, m0)).map kV))) d (.dT [(keyOf (n0, m0), .bl true)]) = H2 at s2 hd2 ⊢
    have st0 : CpSt H H2 d lq (bs.map (·.name)) [⟨(n0, m0), none, []⟩] [b1] := ⟨s1.trans s2, hd2, s2 _ _ ql1, .cons (s2 _ _ qa1) .nil, EsOk.start hn hm⟩
    refine while_by (fun σ H' => ∃ (j : Nat) (es : List En) (qs : List Addr) (v7 v8 v9 v10 : Option V), σ = [some (.ref ak), some (.ref ar), some (.int n0), some (.int m0), some (.ref lq), some (.ref d), some (.int j), v7, v8, v9, v10] ∧ CpSt H H' d lq (bs.map (·.name)) es qs ∧ j ≤ es.length ∧ apRun bs (bs.length * bs.length + 1 - j) es j = apRes bs n0 m0) (fun σ _ => clMu σ) ?_ ?_ ?_
    · exact ⟨0, _, _, none, none, none, none, rfl, st0, Nat.zero_le _, rfl⟩
    · rintro σ H3 ⟨j, es, qs, v7, v8, v9, v10, rfl, st, hj, hrun⟩
      have hql := pr_len st.qa
      have hel : es.length ≤ bs.length * bs.length := by have := st.ok.len; rwa [List.length_map] at this
      refine ⟨_, rfl, _, rfl, lq, _, rfl, .inl (SqL.of st.ql), _, _, rfl, rfl, _, rfl, ite2 (fun h => ?_) (fun h => ?_)⟩
      · have h : (j : Int) < ((qs.map V.ref).length : Int) := of_decide_eq_true h
        rw [List.length_map] at h
        have hjl : j < es.length := by omega
        obtain ⟨e, he⟩ : ∃ e, es[j]? = some e := ⟨_, List.getElem?_eq_getElem hjl⟩
        obtain ⟨qa, hqa, hq3⟩ := pr_get st.qa he
        have hq3 : H3 qa = some (.tup [.int e.pr.1, .int e.pr.2]) := hq3
        have hix : atI (qs.map V.ref) (j : Int) = some (.ref qa) := atI_nat (by rw [List.getElem?_map, hqa]; rfl)
        refine ⟨_, rfl, _, rfl, lq, _, j, .ref qa, rfl, rfl, SqL.of st.ql, hix, qa, _, 0, .int e.pr.1, rfl, rfl, SqT.of hq3, rfl, ?_⟩
        refine ⟨_, rfl, _, rfl, lq, _, j, .ref qa, rfl, rfl, SqL.of st.ql, hix, qa, _, 1, .int e.pr.2, rfl, rfl, SqT.of hq3, rfl, ?_⟩
        obtain ⟨hx1, hx2⟩ := st.ok.mem e (List.mem_of_getElem? he)
        obtain ⟨b, hbm, eb⟩ := List.mem_map.mp hx1
        obtain ⟨c, hcm, ec⟩ := List.mem_map.mp hx2
        obtain ⟨i1, hb⟩ := List.getElem?_of_mem hbm
        obtain ⟨i2, hc⟩ := List.getElem?_of_mem hcm
        refine ⟨_, rfl, _, rfl, _, rfl, ak, ar, bs, fl, i1, b, by rw [eb]; rfl, st.same _ _ hk, ⟨st.same _ _ hR, pr_imp (fun _ _ _ _ z => z.same st.same) pf⟩, nd, hb, (hcl b hbm).1, fun l1 H4 s4 hl1 hL1 => ?_⟩
        have st4 := st.mono s4
        refine ⟨_, rfl, _, rfl, _, rfl, ak, ar, bs, fl, i2, c, by rw [ec]; rfl, st4.same _ _ hk, ⟨st4.same _ _ hR, pr_imp (fun _ _ _ _ z => z.same st4.same) pf⟩, nd, hc, (hcl c hcm).1, fun l2 H5 s5 hl2 hL2 => ?_⟩
        have st5 := st4.mono s5
        obtain ⟨ee, q3, q4⟩ := look_items (H := H5) b c
        refine ⟨l1, l2, _, _, ee, rfl, rfl, s5 _ _ hL1, hL2, q3, _, rfl, ?_⟩
        rw [q4]
        have hf : bs.length * bs.length + 1 - j = (bs.length * bs.length - j) + 1 := by omega
        rw [hf, apRun_some he, ← eb, ← ec, lk_at nd hb, lk_at nd hc] at hrun
        have hq5 := (s4.trans s5) _ _ hq3
        by_cases hlk : (b.kind, b.row.map (ren fun _ => 0)) = (c.kind, c.row.map (ren fun _ => 0))
        · rw [decide_eq_true hlk]
          rw [if_pos hlk] at hrun
          refine iteF ?_

          have hrow : b.row.map (ren fun _ => 0) = c.row.map (ren fun _ => 0) := congrArg (·.2) hlk
          have hlen : b.row.length = c.row.length := by have := congrArg List.length hrow; simpa using this
          have est : stepsOf bs e.pr = stepsAt 0 b.row c.row := by unfold stepsOf; rw [← eb, ← ec, rowB_at nd hb, rowB_at nd hc]
          rw [est] at hrun
          obtain ⟨fa, hfa, ws, hw, htw⟩ := pr_get pf hb
          obtain ⟨fc, hfc, us, hu, htu⟩ := pr_get pf hc
          have gr1 : ∀ {H'}, Same H H' → DGet H' ar (.int e.pr.1) (some (.ref fa)) := fun s => by rw [← eb, ← rowAt hfl nd hb hfa]; exact DGet.k (k := Sum.inl b.name) (s _ _ hR)
          have gr2 : ∀ {H'}, Same H H' → DGet H' ar (.int e.pr.2) (some (.ref fc)) := fun s => by rw [← ec, ← rowAt hfl nd hc hfc]; exact DGet.k (k := Sum.inl c.name) (s _ _ hR)
          refine ⟨_, rfl, _, rfl, ar, .ref fa, rfl, gr1 st5.same, fa, ws, rfl, st5.same _ _ hw, ?_⟩
          refine for_enum (a := fa) (xs := ws) (fun i' σ H' => ∃ v9 v10 qs', σ = [some (.ref ak), some (.ref ar), some (.int n0), some (.int m0), some (.ref lq), some (.ref d), some (.int j), some (.int e.pr.1), some (.int e.pr.2), v9, v10] ∧ CpSt H H' d lq (bs.map (·.name)) (addP es e (stepsAt 0 (b.row.take i') (c.row.take i'))) qs' ∧ (addP es e (stepsAt 0 (b.row.take i') (c.row.take i')))[j]? = some e) ?_ ?_ ?_ ?_
          · exact ⟨_, _, qs, rfl, st5, he⟩
          · rintro i' σ H6 _ ⟨_, _, _, rfl, st6, _⟩
            exact st6.same _ _ hw
          · rintro i' y σ H6 t1 hy ⟨v9, v10, qs6, rfl, st6', he6⟩ ht1
            obtain ⟨t, ht, tv⟩ := pr_getR htw hy
            have hib := (List.getElem?_eq_some_iff.mp ht).1
            have hic : i' < c.row.length := by omega
            have hut : c.row[i']? = some c.row[i'] := List.getElem?_eq_getElem hic
            obtain ⟨uv, huv, tu⟩ := pr_get htu hut
            have hr2 : ren (fun _ => 0) t = ren (fun _ => 0) c.row[i'] := by
              have := congrArg (fun l => l[i']?) hrow
              simp only [List.getElem?_map, ht, hut, Option.map_some] at this
              exact Option.some.inj this
            rw [take_sn ht, take_sn hut, stepsAt_snoc _ _ _ _ _ (by simp; omega)]
            have el : 0 + (b.row.take i').length = i' := by simp; omega
            rw [el]
            have hmt := List.mem_of_getElem? ht
            have hmt' := List.mem_of_getElem? hut
            generalize c.row[i'] = t' at hr2 tu hmt' ⊢
            have st6 := st6'.mono (Same.new (o := .tup [.int (i' : Int), y]) ht1)
            have htt := (upd_same (H := H6) (a := t1) (o := .tup [.int (i' : Int), y]))
            clear st6'
            generalize upd H6 t1 (.tup [.int (i' : Int), y]) = H7 at st6 htt ⊢
            refine ⟨t1, _, _, rfl, htt, ?_⟩
            cases t with
            | non =>
              have e' : y = .non := tv
              subst e'
              refine ⟨_, rfl, _, "tuple", _, false, rfl, .non, sub_nt K, _, rfl, iteF (iteF ⟨_, _, qs6, rfl, ?_⟩)⟩
              have ee' : stepsAt i' [LW.T.non] [t'] = [] := by cases t' <;> rfl
              rw [ee', List.append_nil]
              exact ⟨st6, he6⟩
            | num z =>
              have e' : y = .int z := tv
              subst e'
              refine ⟨_, rfl, _, "tuple", _, false, rfl, .int z, sub_it K, _, rfl, iteF (iteF ⟨_, _, qs6, rfl, ?_⟩)⟩
              have ee' : stepsAt i' [LW.T.num z] [t'] = [] := by cases t' <;> rfl
              rw [ee', List.append_nil]
              exact ⟨st6, he6⟩
            | box x =>
              cases t' with
              | non => cases hr2
              | num z => cases hr2
              | box yv =>
                obtain ⟨bb, rfl, hbb⟩ := tv
                obtain ⟨cc, rfl, hcc⟩ := tu
                have m1 : x ∈ bs.map (·.name) := (hcl b hbm).2 _ hmt
                have m2 : yv ∈ bs.map (·.name) := (hcl c hcm).2 _ hmt'
                rw [show stepsAt i' [LW.T.box x] [LW.T.box yv] = [(i', (x, yv))] from rfl, addP_snoc]
                generalize addP es e (stepsAt 0 (b.row.take i') (c.row.take i')) = E6 at st6 he6 ⊢
                have htl : E6.length = (trues E6).length := by simp [trues]
                have hE6 : E6.length ≤ 900 := by have := st6.ok.len; rw [List.length_map] at this; omega
                have hq6l := pr_len st6.qa
                refine ⟨_, rfl, _, "tuple", _, true, rfl, TyOf.tup (st6.same _ _ hbb), kit_same _ _, _, rfl, iteT ?_⟩
                refine ⟨_, rfl, bb, _, 1, .int x, rfl, rfl, SqT.of (st6.same _ _ hbb), rfl, _, rfl, _, rfl, ar, .ref fc, rfl, gr2 st6.same, _, rfl, fc, us, i', .ref cc, rfl, rfl, SqL.of (st6.same _ _ hu), atI_nat huv, cc, _, 1, .int yv, rfl, rfl, SqT.of (st6.same _ _ hcc), rfl, by show 2 ≤ sizeLine; decide, fun b3 hb3 => ?_⟩
                refine ⟨_, rfl, d, _, rfl, DGet.t (k := keyOf (x, yv)) (kp_n st6.sn hb3) (by rw [tk]; exact upd_same), _, rfl, ?_⟩
                rw [keyed_some htl]
                by_cases hin : (x, yv) ∈ E6.map (·.pr)
                · rw [if_pos hin, decide_eq_true hin]
                  exact iteF ⟨_, _, qs6, rfl, st6.mono (Same.new hb3), he6⟩
                · rw [if_neg hin, decide_eq_false hin]
                  have st7 := st6.mono (Same.new (o := .tup [.int x, .int yv]) hb3)
                  refine iteT ?_
                  clear st6
                  generalize upd H7 b3 (.tup [.int x, .int yv]) = H8 at st7 ⊢
                  refine ⟨_, rfl, _, rfl, bb, _, 1, .int x, rfl, rfl, SqT.of (st7.same _ _ hbb), rfl, _, rfl, _, rfl, ar, .ref fc, rfl, gr2 st7.same, _, rfl, fc, us, i', .ref cc, rfl, rfl, SqL.of (st7.same _ _ hu), atI_nat huv, cc, _, 1, .int yv, rfl, rfl, SqT.of (st7.same _ _ hcc), rfl, by show 2 ≤ sizeLine; decide, fun b4 hb4 => ?_⟩
                  have st8 := st7.mono (Same.new (o := .tup [.int x, .int yv]) hb4)
                  have hb4' : (upd H8 b4 (.tup [.int x, .int yv])) b4 = some (.tup ((keyOf (x, yv)).map kV)) := upd_same
                  clear st7
                  generalize upd H8 b4 (.tup [.int x, .int yv]) = H9 at st8 hb4' ⊢
                  refine ⟨d, _, rfl, DPut.t (k := keyOf (x, yv)) st8.sn hb4' (by rw [keyed, List.length_map, List.length_zip]; exact small1000 (by omega)), ?_⟩
                  rw [keyed_put (e := ⟨(x, yv), some (e.pr, i'), e.rd ++ [i']⟩) htl hin]
                  have tu10 := Tups.upd (o := .dT (keyed (E6 ++ [⟨(x, yv), some (e.pr, i'), e.rd ++ [i']⟩]) (trues E6 ++ [.bl true]))) st8.sn (by intro xs z; cases z)
                  have nl : ∀ {r : Addr} {zs : List V}, H9 r = some (.lst zs) → r ≠ d := fun z => ne_of z st8.sn (by intro z; cases z)
                  have hq10 : (upd H9 d (.dT (keyed (E6 ++ [⟨(x, yv), some (e.pr, i'), e.rd ++ [i']⟩]) (trues E6 ++ [.bl true])))) lq = some (.lst (qs6.map V.ref)) := by rw [upd_ne (nl st8.ql)]; exact st8.ql
                  have s10 : Same H (upd H9 d (.dT (keyed (E6 ++ [⟨(x, yv), some (e.pr, i'), e.rd ++ [i']⟩]) (trues E6 ++ [.bl true])))) := fun z o w => by rw [upd_ne (ne_of_none w hd0)]; exact st8.same _ _ w
                  have qa10 : Paired (PairA (upd H9 d (.dT (keyed (E6 ++ [⟨(x, yv), some (e.pr, i'), e.rd ++ [i']⟩]) (trues E6 ++ [.bl true]))))) E6 qs6 := pr_imp (fun _ _ _ _ z => tu10 _ _ z) st8.qa
                  have sn10 : (upd H9 d (.dT (keyed (E6 ++ [⟨(x, yv), some (e.pr, i'), e.rd ++ [i']⟩]) (trues E6 ++ [.bl true])))) d = some (.dT (keyed (E6 ++ [⟨(x, yv), some (e.pr, i'), e.rd ++ [i']⟩]) (trues (E6 ++ [⟨(x, yv), some (e.pr, i'), e.rd ++ [i']⟩])))) := by rw [upd_same]; simp [trues]
                  have dq : d ≠ lq := (nl st8.ql).symm
                  have ok6 := st8.ok.snoc (s := (i', (x, yv))) he6 hin m1 m2
                  clear st8 tu10 nl
                  generalize upd H9 d (.dT (keyed (E6 ++ [⟨(x, yv), some (e.pr, i'), e.rd ++ [i']⟩]) (trues E6 ++ [.bl true]))) = H10 at hq10 s10 qa10 sn10 ⊢
                  refine ⟨_, rfl, .inl ⟨rfl, _, SqL.of hq10⟩, _, rfl, bb, _, 1, .int x, rfl, rfl, SqT.of (s10 _ _ hbb), rfl, _, rfl, _, rfl, ar, .ref fc, rfl, gr2 s10, _, rfl, fc, us, i', .ref cc, rfl, rfl, SqL.of (s10 _ _ hu), atI_nat huv, cc, _, 1, .int yv, rfl, rfl, SqT.of (s10 _ _ hcc), rfl, by show 2 ≤ sizeLine; decide, fun q hq => ?_⟩
                  have s13 := Same.new (o := .tup [.int x, .int yv]) hq
                  have hQ := upd_same (H := H10) (a := q) (o := .tup [.int x, .int yv])
                  generalize upd H10 q (.tup [.int x, .int yv]) = H13 at s13 hQ ⊢
                  have hq13 := s13 _ _ hq10
                  refine ⟨lq, _, _, rfl, rfl, hq13, by rw [List.length_map]; exact small1000 (by omega), ?_⟩
                  have tu14 := Tups.upd (o := .lst (qs6.map V.ref ++ [.ref q])) hq13 (by intro xs z; cases z)
                  refine ⟨_, _, qs6 ++ [q], rfl, ⟨fun z o w => ?_, ?_, by rw [upd_same]; simp, ?_, ok6⟩, by rw [List.getElem?_append_left (List.getElem?_eq_some_iff.mp he6).1]; exact he6⟩
                  · rw [upd_ne (ne_of_none w hlq0)]; exact s13 _ _ (s10 _ _ w)
                  · rw [upd_ne dq]; exact s13 _ _ sn10
                  · exact pr_app (pr_imp (fun _ _ _ _ z => tu14 _ _ (s13 _ _ z)) qa10) (.cons (tu14 _ _ hQ) .nil)
          · rintro σ H6 ⟨v9, v10, qs6, rfl, st6, he6⟩
            rw [← pr_len htw, List.take_length, hlen, List.take_length] at st6 he6
            have := (List.getElem?_eq_some_iff.mp he6).1
            refine ⟨_, rfl, j, 1, rfl, rfl, ⟨j + 1, _, qs6, _, _, _, _, rfl, st6, by omega, ?_⟩, ?_⟩
            · rw [← hrun]; congr 1; omega
            · show (901 - ((j : Int) + 1)).toNat < (901 - (j : Int)).toNat
              omega
        · rw [decide_eq_false hlk]
          rw [if_neg hlk] at hrun
          rw [hnon] at hrun
          cases hrun
      · have h : ¬ (j : Int) < ((qs.map V.ref).length : Int) := fun z => h (decide_eq_true z)
        rw [List.length_map] at h
        rw [apRun_none (List.getElem?_eq_none (by omega))] at hrun
        exact kN H3 st.same
    · intro σ H1 Q1 Q2 hQ h
      obtain ⟨v, e1, v2, e2, y1, y2, e6, e7, z1, z2, e8, e9, z3, e10, z⟩ := h
      exact ⟨v, e1, v2, e2, y1, y2, e6, e7, z1, z2, e8, e9, z3, e10, hQ _ _ z⟩
end
end LW


/-! THE LAWS' defs: where a road leads; whether an answer is good -/
namespace LW
open PySem L2
def spRoadL : Sp := fun vs H Q _ => ∃ (ak ar : Addr) (bs : List Box) (fl : List Addr) (n m : Int) (lr : Addr) (r : List Nat) (q : Pr), vs = [.ref ak, .ref ar, .int n, .int m, .ref lr] ∧ H ak = some (.dK (kindsD bs)) ∧ RowAt H ar bs fl ∧ (bs.map (·.name)).Nodup ∧ n ∈ bs.map (·.name) ∧ m ∈ bs.map (·.name) ∧ Closed bs ∧ H lr = some (.lst (r.map fun k => V.int (k : Nat))) ∧ Goes bs (n, m) r q ∧ (∀ t H', Same H H' → H' t = some (.tup [.int q.1, .int q.2]) → q.1 ∈ bs.map (·.name) → q.2 ∈ bs.map (·.name) → Q (.ref t) H')
section
variable {P : Program} {w : World} {K : PySem.W.Frag} {mg : Str → Option Value} {base : Heap} {C : Addr}
theorem ok_f_law_road {n : Nat} {f : Addr} {fd : FuncData} (F : Fun K "_law_road" "_law_road" s_f_law_road f fd) (T : TX K mg C) (D_law_look : DefOk P w K mg base n "_law_look" ["kinds", "rows", "name"] (spLook) [[]])
    (D_law_whole : DefOk P w K mg base n "_law_whole" ["found"] (spWhole) [[]]) :
    FnOk P w K mg base CX0 (n + 1) f fd ["kinds", "rows", "one", "other", "road"] (spRoadL) := by
  obtain ⟨f_law_look, fd_law_look, n_law_look, k_law_look, J_law_look, c_law_look⟩ := D_law_look
  obtain ⟨f_law_whole, fd_law_whole, n_law_whole, k_law_whole, J_law_whole, c_law_whole⟩ := D_law_whole
  refine F.ok sc_f_law_road (fun vs H Q E h => ?_) (fun cdv A outer s H vs Q E hr h => ?_)
  · obtain ⟨ak, ar, bs, fl, n0, m0, lr, r, q, rfl, _⟩ := h
    rfl
  · obtain ⟨ak, ar, bs, fl, n0, m0, lr, r, q, rfl, hk, ⟨hR, pf⟩, nd, hn, hm, hcl, hlr, hg, k⟩ := h
    have hu := hu_of hr
    refine ⟨_, (pss_cons (ps_for PassesOwn.never rfl (pi_list (pv 4)) (pg_name (i := 5) sc_f_law_road.nd rfl (Or.inl rfl))
      (pss_cons (ps_if (PW.pt (pw_or (pt_not (pt_val (pe_call J_law_whole hr (by rfl) n_law_whole k_law_whole (c_law_whole [] (by simp)) .nil pass0 (pa_cons (pv 5) pa_nil)))) (pw_or1 (pt_cmpR (op_neG hr.units) (pe_call J_law_look hr (by rfl) n_law_look k_law_look (c_law_look [] (by simp)) .nil pass0 (pa_cons (pv 0) (pa_cons (pv 1) (pa_cons (pv 2) pa_nil)))) (pe_call J_law_look hr (by rfl) n_law_look k_law_look (c_law_look [] (by simp)) .nil pass0 (pa_cons (pv 0) (pa_cons (pv 1) (pa_cons (pv 3) pa_nil)))) (nomark _))))) (pss_one (ps_ret pe_non)) pss_nil)
      (pss_cons (ps_if (PW.pt (pw_or (pt_not (pt_chain op_le op_lt pe_int (pv 5) (pe_callB call_len_seq (by rfl) T.g_len PySem.boot_len (pa_cons (pe_dget hu (pv 1) (pv 2) (fun _ _ => rfl)) pa_nil)))) (pw_or1 (pt_not (pt_val (pe_callB call_isi (by rfl) T.g_isi PyProof.Rows.boot_isinstance (pa_cons (pe_ix ix_list (pe_dget hu (pv 1) (pv 2) (fun _ _ => rfl)) (pv 5) (fun _ _ => rfl)) (pa_cons (pe_bltn (v := .ty "tuple") (by rfl) T.g_tuple PyProof.Rows.boot_tuple rfl) pa_nil)))))))) (pss_one (ps_ret pe_non)) pss_nil)
      (pss_cons (ps_set (i := 2) sc_f_law_road.nd rfl (Or.inl rfl) (pe_ix ix_tup (pe_ix ix_list (pe_dget hu (pv 1) (pv 2) (fun _ _ => rfl)) (pv 5) (fun _ _ => rfl)) pe_int (fun _ _ => rfl)))
      (pss_one (ps_set (i := 3) sc_f_law_road.nd rfl (Or.inl rfl) (pe_ix ix_tup (pe_ix ix_list (pe_dget hu (pv 1) (pv 3) (fun _ _ => rfl)) (pv 5) (fun _ _ => rfl)) pe_int (fun _ _ => rfl))))))))
      (pss_one (ps_ret (pe_tup (pa_cons (pv 2) (pa_cons (pv 3) pa_nil)))))), ?_⟩
    have hfl := pr_len pf
    refine ⟨_, rfl, lr, rfl, ⟨_, SqL.of hlr⟩, ?_⟩
    refine for_list (K := K) (xs := r.map fun k => V.int (k : Nat)) (fun i σ H' => ∃ (p' : Pr) (v5 : Option V), σ = [some (.ref ak), some (.ref ar), some (.int p'.1), some (.int p'.2), some (.ref lr), v5] ∧ Same H H' ∧ p'.1 ∈ bs.map (·.name) ∧ p'.2 ∈ bs.map (·.name) ∧ Goes bs p' (r.drop i) q) ?_ ?_ ?_ ?_
    · exact ⟨(n0, m0), _, rfl, Same.refl _, hn, hm, hg⟩
    · rintro i σ H1 _ ⟨_, _, rfl, s1, _⟩
      exact SqL.of (s1 _ _ hlr)
    · rintro i y σ H1 hy ⟨p', v5, rfl, s1, h1, h2, hg1⟩
      obtain ⟨kk, hkk, rfl⟩ : ∃ kk, r[i]? = some kk ∧ y = .int (kk : Nat) := by
        rw [List.getElem?_map] at hy
        cases z : r[i]? with
        | none => rw [z] at hy; cases hy
        | some kk => rw [z] at hy; exact ⟨kk, rfl, (Option.some.inj hy).symm⟩
      have hdr : r.drop i = kk :: r.drop (i + 1) := by
        obtain ⟨hi, e⟩ := List.getElem?_eq_some_iff.mp hkk
        rw [← e, List.drop_eq_getElem_cons hi]
      rw [hdr] at hg1
      cases hg1 with
      | @cons _ p2 _ _ _ hl hs hg2 =>
        obtain ⟨b, hbm, eb⟩ := List.mem_map.mp h1
        obtain ⟨c, hcm, ec⟩ := List.mem_map.mp h2
        obtain ⟨i1, hb⟩ := List.getElem?_of_mem hbm
        obtain ⟨i2, hc⟩ := List.getElem?_of_mem hcm
        have est : stepsOf bs p' = stepsAt 0 b.row c.row := by unfold stepsOf; rw [← eb, ← ec, rowB_at nd hb, rowB_at nd hc]
        rw [est] at hs
        obtain ⟨i0, e0, hx, hy'⟩ := stepsAt_mem _ _ _ _ hs
        have e0 : kk = i0 := by simpa using e0
        subst e0
        rw [← eb, ← ec, lk_at nd hb, lk_at nd hc] at hl
        obtain ⟨fa, hfa, ws, hw, htw⟩ := pr_get pf hb
        obtain ⟨fc, hfc, us, hu, htu⟩ := pr_get pf hc
        have gr1 : ∀ {H'}, Same H H' → DGet H' ar (.int p'.1) (some (.ref fa)) := fun s => by rw [← eb, ← rowAt hfl nd hb hfa]; exact DGet.k (k := Sum.inl b.name) (s _ _ hR)
        have gr2 : ∀ {H'}, Same H H' → DGet H' ar (.int p'.2) (some (.ref fc)) := fun s => by rw [← ec, ← rowAt hfl nd hc hfc]; exact DGet.k (k := Sum.inl c.name) (s _ _ hR)
        obtain ⟨v1, hv1, bb, rfl, hbb⟩ := pr_get htw hx
        obtain ⟨v2, hv2, cc, rfl, hcc⟩ := pr_get htu hy'
        have hkl := (List.getElem?_eq_some_iff.mp hv1).1
        refine ⟨_, rfl, (kk : Int), rfl, _, rfl, iteB rfl ?_⟩
        refine ⟨_, rfl, _, rfl, _, rfl, ak, ar, bs, fl, i1, b, by rw [eb]; rfl, s1 _ _ hk, ⟨s1 _ _ hR, pr_imp (fun _ _ _ _ z => z.same s1) pf⟩, nd, hb, (hcl b hbm).1, fun l1 H2 s2 hl1 hL1 => ?_⟩
        have s12 := s1.trans s2
        refine ⟨_, rfl, _, rfl, _, rfl, ak, ar, bs, fl, i2, c, by rw [ec]; rfl, s12 _ _ hk, ⟨s12 _ _ hR, pr_imp (fun _ _ _ _ z => z.same s12) pf⟩, nd, hc, (hcl c hcm).1, fun l2 H3 s3 hl2 hL2 => ?_⟩
        have s13 := s12.trans s3
        obtain ⟨ee, q3, q4⟩ := look_items (H := H3) b c
        refine ⟨l1, l2, _, _, ee, rfl, rfl, s3 _ _ hL1, hL2, q3, _, rfl, ?_⟩
        rw [q4, decide_eq_true hl]
        refine iteF ?_
        refine ⟨_, rfl, _, _, rfl, rfl, _, rfl, iteA (decide_eq_true (by show (0 : Int) ≤ (kk : Int); omega)) ?_⟩
        refine ⟨_, rfl, _, rfl, ar, .ref fa, rfl, gr1 s13, fa, ws, rfl, .inl (SqL.of (s13 _ _ hw)), _, _, rfl, rfl, _, rfl, iteB (by rw [decide_eq_true (show (kk : Int) < (ws.length : Int) by omega)]; rfl) ?_⟩
        refine ⟨_, rfl, _, rfl, ar, .ref fa, rfl, gr1 s13, _, rfl, fa, ws, kk, .ref bb, rfl, rfl, SqL.of (s13 _ _ hw), atI_nat hv1, _, "tuple", _, true, rfl, TyOf.tup (s13 _ _ hbb), kit_same _ _, _, rfl, iteB rfl ?_⟩
        refine ⟨_, rfl, _, rfl, ar, .ref fa, rfl, gr1 s13, _, rfl, fa, ws, kk, .ref bb, rfl, rfl, SqL.of (s13 _ _ hw), atI_nat hv1, bb, _, 1, .int p2.1, rfl, rfl, SqT.of (s13 _ _ hbb), rfl, ?_⟩
        refine ⟨_, rfl, _, rfl, ar, .ref fc, rfl, gr2 s13, _, rfl, fc, us, kk, .ref cc, rfl, rfl, SqL.of (s13 _ _ hu), atI_nat hv2, cc, _, 1, .int p2.2, rfl, rfl, SqT.of (s13 _ _ hcc), rfl, ?_⟩
        exact ⟨p2, _, rfl, s13, (hcl b hbm).2 _ (List.mem_of_getElem? hx), (hcl c hcm).2 _ (List.mem_of_getElem? hy'), hg2⟩
    · rintro σ H1 ⟨p', v5, rfl, s1, h1, h2, hg1⟩
      rw [List.length_map, List.drop_length] at hg1
      cases hg1
      refine ⟨_, rfl, _, rfl, by show 2 ≤ sizeLine; decide, fun t ht => k t _ (s1.trans (Same.new ht)) upd_same h1 h2⟩
end
end LW


/-! THE LAWS' defs: whether an answer is good -/
namespace LW
open PySem L2
def ApV (H : Hp) (R : Option (List Nat)) (v : V) : Prop := (R = none ∧ v = .non) ∨ ∃ r l, R = some r ∧ v = .ref l ∧ H l = some (.lst (r.map fun k => V.int (k : Nat)))
def spHeldGood : Sp := fun vs H Q _ => ∃ (ak ar : Addr) (bs : List Box) (fl : List Addr) (n m : Int) (v : V), vs = [.ref ak, .ref ar, .int n, .int m, v] ∧ H ak = some (.dK (kindsD bs)) ∧ RowAt H ar bs fl ∧ (bs.map (·.name)).Nodup ∧ n ∈ bs.map (·.name) ∧ m ∈ bs.map (·.name) ∧ Closed bs ∧ bs.length ≤ 30 ∧ ApV H (apRes bs n m) v ∧ ∀ H', Same H H' → Q (.bl true) H'
section
variable {P : Program} {w : World} {K : PySem.W.Frag} {mg : Str → Option Value} {base : Heap} {C : Addr}
theorem ok_f_law_held_good {n : Nat} {f : Addr} {fd : FuncData} (F : Fun K "_law_held_good" "_law_held_good" s_f_law_held_good f fd) (T : TX K mg C) (D_law_close : DefOk P w K mg base n "_law_close" ["kinds", "rows", "one", "other"] (spClose) [[]])
    (D_law_road : DefOk P w K mg base n "_law_road" ["kinds", "rows", "one", "other", "road"] (spRoadL) [[]])
    (D_law_look : DefOk P w K mg base n "_law_look" ["kinds", "rows", "name"] (spLook) [[]]) :
    FnOk P w K mg base CX0 (n + 1) f fd ["kinds", "rows", "one", "two", "road"] (spHeldGood) := by
  obtain ⟨f_law_close, fd_law_close, n_law_close, k_law_close, J_law_close, c_law_close⟩ := D_law_close
  obtain ⟨f_law_road, fd_law_road, n_law_road, k_law_road, J_law_road, c_law_road⟩ := D_law_road
  obtain ⟨f_law_look, fd_law_look, n_law_look, k_law_look, J_law_look, c_law_look⟩ := D_law_look
  refine F.ok sc_f_law_held_good (fun vs H Q E h => ?_) (fun cdv A outer s H vs Q E hr h => ?_)
  · obtain ⟨ak, ar, bs, fl, n0, m0, v, rfl, _⟩ := h
    rfl
  · obtain ⟨ak, ar, bs, fl, n0, m0, v, rfl, hk, ⟨hR, pf⟩, nd, hn, hm, hcl, few, hv, k⟩ := h
    have hu := hu_of hr
    refine ⟨_, (pss_cons (ps_if (pt_cmp (pc_isN (pv 4))) (pss_one (ps_ret (pe_call J_law_close hr (by rfl) n_law_close k_law_close (c_law_close [] (by simp)) .nil pass0 (pa_cons (pv 0) (pa_cons (pv 1) (pa_cons (pv 2) (pa_cons (pv 3) pa_nil))))))) pss_nil)
      (pss_cons (ps_if (pt_not (pt_val (pe_callB call_isi (by rfl) T.g_isi PyProof.Rows.boot_isinstance (pa_cons (pv 4) (pa_cons (pe_bltn (v := .ty "list") (by rfl) T.g_list PyProof.Rows.boot_list rfl) pa_nil))))) (pss_one (ps_ret pe_bl)) pss_nil)
      (pss_cons (ps_set (i := 5) sc_f_law_held_good.nd rfl (Or.inl rfl) (pe_call J_law_road hr (by rfl) n_law_road k_law_road (c_law_road [] (by simp)) .nil pass0 (pa_cons (pv 0) (pa_cons (pv 1) (pa_cons (pv 2) (pa_cons (pv 3) (pa_cons (pv 4) pa_nil)))))))
      (pss_one (ps_ret (pe_and (pe_cmp (pc_notN (pv 5))) (pe_one (pe_cmpR (op_neG hr.units) (pe_call J_law_look hr (by rfl) n_law_look k_law_look (c_law_look [] (by simp)) .nil pass0 (pa_cons (pv 0) (pa_cons (pv 1) (pa_cons (pe_ix ix_tup (pv 5) pe_int (fun _ _ => rfl)) pa_nil)))) (pe_call J_law_look hr (by rfl) n_law_look k_law_look (c_law_look [] (by simp)) .nil pass0 (pa_cons (pv 0) (pa_cons (pv 1) (pa_cons (pe_ix ix_tup (pv 5) pe_int (fun _ _ => rfl)) pa_nil)))) (nomark _))))))))), ?_⟩
    rcases hv with ⟨hnon, rfl⟩ | ⟨r, l, hsome, rfl, hl⟩
    · refine ⟨_, rfl, _, rfl, iteT ?_⟩
      exact ⟨_, rfl, _, rfl, _, rfl, _, rfl, ak, ar, bs, fl, n0, m0, rfl, hk, ⟨hR, pf⟩, nd, hn, hm, hcl, few, hnon, fun H' s => k H' s⟩
    · refine ⟨_, rfl, _, rfl, iteF ?_⟩
      refine ⟨_, rfl, _, "list", _, true, rfl, TyOf.lst hl, kit_same _ _, _, rfl, iteB rfl ?_⟩
      obtain ⟨q, hg, hne⟩ := apRun_goes (p0 := (n0, m0)) _ _ _ r (fun x hx => by have := List.mem_singleton.mp hx; subst this; exact .nil _) hsome
      refine ⟨_, rfl, _, rfl, _, rfl, _, rfl, _, rfl, ak, ar, bs, fl, n0, m0, l, r, q, rfl, hk, ⟨hR, pf⟩, nd, hn, hm, hcl, hl, hg, fun t H1 s1 ht h1 h2 => ?_⟩
      obtain ⟨b, hbm, eb⟩ := List.mem_map.mp h1
      obtain ⟨c, hcm, ec⟩ := List.mem_map.mp h2
      obtain ⟨i1, hb⟩ := List.getElem?_of_mem hbm
      obtain ⟨i2, hc⟩ := List.getElem?_of_mem hcm
      rw [← eb, ← ec, lk_at nd hb, lk_at nd hc] at hne
      refine ⟨_, rfl, _, rfl, iteT ?_⟩
      refine ⟨_, rfl, _, rfl, _, rfl, t, _, 0, .int q.1, rfl, rfl, SqT.of ht, rfl, ak, ar, bs, fl, i1, b, by rw [eb]; rfl, s1 _ _ hk, ⟨s1 _ _ hR, pr_imp (fun _ _ _ _ z => z.same s1) pf⟩, nd, hb, (hcl b hbm).1, fun l1 H2 s2 hl1 hL1 => ?_⟩
      have s12 := s1.trans s2
      refine ⟨_, rfl, _, rfl, _, rfl, t, _, 1, .int q.2, rfl, rfl, SqT.of (s2 _ _ ht), rfl, ak, ar, bs, fl, i2, c, by rw [ec]; rfl, s12 _ _ hk, ⟨s12 _ _ hR, pr_imp (fun _ _ _ _ z => z.same s12) pf⟩, nd, hc, (hcl c hcm).1, fun l2 H3 s3 hl2 hL2 => ?_⟩
      obtain ⟨ee, q3, q4⟩ := look_items (H := H3) b c
      refine ⟨l1, l2, _, _, ee, rfl, rfl, s3 _ _ hL1, hL2, q3, ?_⟩
      rw [q4, decide_eq_false hne]
      exact k _ (s12.trans s3)
end
end LW


/-! THE LAW -/
namespace LW
open PySem L2
theorem Closed.of_ok {bs : List Box} (hn : bs.map (·.name) = intsUp 1 bs.length) (h : ∀ b ∈ bs, BOk bs.length b) : Closed bs := fun b hb => ⟨by have := (h b hb).le; omega, fun m hm => by
  have := (h b hb).ts _ hm
  rw [hn, intsUp_mem]
  have h1 : 1 ≤ m := this.1
  have h2 : m ≤ bs.length := this.2
  omega⟩
theorem Closed.setRow {bs : List Box} {k at_ : Nat} {t : T} (hc : Closed bs) (ht : ∀ n', t = .box n' → n' ∈ bs.map (·.name)) : Closed (setRow bs k at_ t) := by
  intro b hb
  rw [setRow_name]
  obtain ⟨i, hi⟩ := List.getElem?_of_mem hb
  unfold LW.setRow at hi
  rw [List.getElem?_modify] at hi
  cases e : bs[i]? with
  | none => rw [e] at hi; cases hi
  | some c =>
    rw [e] at hi
    have hc' := hc c (List.mem_of_getElem? e)
    have hi : (if k = i then { c with row := c.row.set at_ t } else c) = b := Option.some.inj hi
    split at hi
    · subst hi
      refine ⟨by show (c.row.set at_ t).length ≤ 900; rw [List.length_set]; exact hc'.1, fun m hm => ?_⟩
      rcases List.mem_or_eq_of_mem_set (show LW.T.box m ∈ c.row.set at_ t from hm) with z | z
      · exact hc'.2 m z
      · exact ht m z.symm
    · subst hi; exact hc'
theorem setRow_at {bs : List Box} {i j at_ : Nat} {t : T} : (setRow bs i at_ t)[j]? = (bs[j]?).map fun b => if i = j then { b with row := b.row.set at_ t } else b := by
  unfold setRow
  rw [List.getElem?_modify]
  rfl
theorem ApOut.of {Q : V → Hp → Prop} {H : Hp} {R : Option (List Nat)} (h : ∀ v H', Same H H' → ApV H' R v → Q v H') : ApOut Q H R := ⟨fun e H' s => h _ H' s (.inl ⟨e, rfl⟩), fun r e l H' s _ hl => h _ H' s (.inr ⟨r, l, e, rfl, hl⟩)⟩
section
variable {P : Program} {w : World} {K : PySem.W.Frag} {mg : Str → Option Value} {base : Heap} {C : Addr}
def spLaw (K : PySem.W.Frag) : Sp := fun vs H Q _ => ∃ (a : Addr) (ns : List Int), vs = [.ref a] ∧ Scr K H a ns ∧ ns.length ≤ 63 ∧ ∀ H', Q (.bl true) H'
theorem ok_f_law {n : Nat} {f : Addr} {fd : FuncData} (F : Fun K "law" "law" s_f_law f fd) (T : TX K mg C) (D_law_mid : DefOk P w K mg base n "_law_mid" ["script"] (spMidD K) [[]])
    (D_law_either : DefOk P w K mg base n "_law_either" ["script", "many"] (spGraph K) [[]])
    (D_law_house : DefOk P w K mg base n "_law_house" ["kinds", "rows", "slots", "extra"] (spHouse C) [[]])
    (D_law_draw : DefOk P w K mg base n "_law_draw" ["script", "k"] (spDrawD K) [[]])
    (D_law_held_good : DefOk P w K mg base n "_law_held_good" ["kinds", "rows", "one", "two", "road"] (spHeldGood) [[]])
    (D_apart : DefOk P w K mg base n "apart" ["house", "name", "other"] (spApart C) [[]])
    (D_law_thing : DefOk P w K mg base n "_law_thing" ["script", "k", "many"] (spThing K) [[]])
    (M_put : MethOk P w K mg base C n "put" ["self", "name", "at", "thing"] (spPut C) [[]]) :
    FnOk P w K mg base CX0 (n + 1) f fd ["script"] (spLaw K) := by
  obtain ⟨f_law_mid, fd_law_mid, n_law_mid, k_law_mid, J_law_mid, c_law_mid⟩ := D_law_mid
  obtain ⟨f_law_either, fd_law_either, n_law_either, k_law_either, J_law_either, c_law_either⟩ := D_law_either
  obtain ⟨f_law_house, fd_law_house, n_law_house, k_law_house, J_law_house, c_law_house⟩ := D_law_house
  obtain ⟨f_law_draw, fd_law_draw, n_law_draw, k_law_draw, J_law_draw, c_law_draw⟩ := D_law_draw
  obtain ⟨f_law_held_good, fd_law_held_good, n_law_held_good, k_law_held_good, J_law_held_good, c_law_held_good⟩ := D_law_held_good
  obtain ⟨f_apart, fd_apart, n_apart, k_apart, J_apart, c_apart⟩ := D_apart
  obtain ⟨f_law_thing, fd_law_thing, n_law_thing, k_law_thing, J_law_thing, c_law_thing⟩ := D_law_thing
  obtain ⟨f_put, fd_put, m_put, G_put, b_put⟩ := M_put
  refine F.ok sc_f_law (fun vs H Q E h => ?_) (fun cdv A outer s H vs Q E hr h => ?_)
  · obtain ⟨a, ns, rfl, _⟩ := h
    rfl
  · obtain ⟨a, ns, rfl, hS, hlen, q⟩ := h
    have hu := hu_of hr
    refine ⟨_, (pss_cons (ps_set (i := 1) sc_f_law.nd rfl (Or.inl rfl) (pe_call J_law_mid hr (by rfl) n_law_mid k_law_mid (c_law_mid [] (by simp)) .nil pass0 (pa_cons (pv 0) pa_nil)))
      (pss_cons (ps_set (i := 2) sc_f_law.nd rfl (Or.inl rfl) (pe_call J_law_either hr (by rfl) n_law_either k_law_either (c_law_either [] (by simp)) .nil pass0 (pa_cons (pv 0) (pa_cons (pv 1) pa_nil))))
      (pss_cons (ps_set (i := 3) sc_f_law.nd rfl (Or.inl rfl) (pe_call J_law_house hr (by rfl) n_law_house k_law_house (c_law_house [] (by simp)) .nil pass0 (pa_cons (pe_ix ix_tup (pv 2) pe_int (fun _ _ => rfl)) (pa_cons (pe_ix ix_tup (pv 2) pe_int (fun _ _ => rfl)) (pa_cons (pe_lst (pa_cons pe_non pa_nil)) (pa_cons pe_int pa_nil))))))
      (pss_cons (ps_set (i := 4) sc_f_law.nd rfl (Or.inl rfl) (pe_op op_add pe_int (pe_op op_mod (pe_call J_law_draw hr (by rfl) n_law_draw k_law_draw (c_law_draw [] (by simp)) .nil pass0 (pa_cons (pv 0) (pa_cons pe_int pa_nil))) (pv 1))))
      (pss_cons (ps_set (i := 5) sc_f_law.nd rfl (Or.inl rfl) (pe_op op_add pe_int (pe_op op_mod (pe_call J_law_draw hr (by rfl) n_law_draw k_law_draw (c_law_draw [] (by simp)) .nil pass0 (pa_cons (pv 0) (pa_cons pe_int pa_nil))) (pv 1))))
      (pss_cons (ps_if (pt_not (pt_val (pe_call J_law_held_good hr (by rfl) n_law_held_good k_law_held_good (c_law_held_good [] (by simp)) .nil pass0 (pa_cons (pe_ix ix_tup (pv 2) pe_int (fun _ _ => rfl)) (pa_cons (pe_ix ix_tup (pv 2) pe_int (fun _ _ => rfl)) (pa_cons (pv 4) (pa_cons (pv 5) (pa_cons (pe_call J_apart hr (by rfl) n_apart k_apart (c_apart [] (by simp)) .nil pass0 (pa_cons (pv 3) (pa_cons (pv 4) (pa_cons (pv 5) pa_nil)))) pa_nil)))))))) (pss_one (ps_ret pe_bl)) pss_nil)
      (pss_cons (ps_set (i := 6) sc_f_law.nd rfl (Or.inl rfl) (pe_op op_add pe_int (pe_op op_mod (pe_call J_law_draw hr (by rfl) n_law_draw k_law_draw (c_law_draw [] (by simp)) .nil pass0 (pa_cons (pv 0) (pa_cons pe_int pa_nil))) (pv 1))))
      (pss_cons (ps_if (pt_cmpR op_gt (pe_callB call_len_seq (by rfl) T.g_len PySem.boot_len (pa_cons (pe_dget hu (pe_ix ix_tup (pv 2) pe_int (fun _ _ => rfl)) (pv 6) (fun _ _ => rfl)) pa_nil)) pe_int (nomark _)) (pss_cons (ps_set (i := 7) sc_f_law.nd rfl (Or.inl rfl) (pe_op op_mod (pe_call J_law_draw hr (by rfl) n_law_draw k_law_draw (c_law_draw [] (by simp)) .nil pass0 (pa_cons (pv 0) (pa_cons pe_int pa_nil))) (pe_callB call_len_seq (by rfl) T.g_len PySem.boot_len (pa_cons (pe_dget hu (pe_ix ix_tup (pv 2) pe_int (fun _ _ => rfl)) (pv 6) (fun _ _ => rfl)) pa_nil))))
      (pss_cons (ps_asg (pe_call J_law_thing hr (by rfl) n_law_thing k_law_thing (c_law_thing [] (by simp)) .nil pass0 (pa_cons (pv 0) (pa_cons pe_int (pa_cons (pv 1) pa_nil)))) (pg_sub (pe_dget hu (pe_ix ix_tup (pv 2) pe_int (fun _ _ => rfl)) (pv 6) (fun _ _ => rfl)) (pv 7) set_list))
      (pss_one (ps_expr (pe_meth (pv 3) T.cl m_put G_put hr (b_put [] (by simp)) .nil pass0 (pa_cons (pv 6) (pa_cons (pv 7) (pa_cons (pe_ix ix_list (pe_dget hu (pe_ix ix_tup (pv 2) pe_int (fun _ _ => rfl)) (pv 6) (fun _ _ => rfl)) (pv 7) (fun _ _ => rfl)) pa_nil)))))))) pss_nil)
      (pss_one (ps_ret (pe_call J_law_held_good hr (by rfl) n_law_held_good k_law_held_good (c_law_held_good [] (by simp)) .nil pass0 (pa_cons (pe_ix ix_tup (pv 2) pe_int (fun _ _ => rfl)) (pa_cons (pe_ix ix_tup (pv 2) pe_int (fun _ _ => rfl)) (pa_cons (pv 4) (pa_cons (pv 5) (pa_cons (pe_call J_apart hr (by rfl) n_apart k_apart (c_apart [] (by simp)) .nil pass0 (pa_cons (pv 3) (pa_cons (pv 4) (pa_cons (pv 5) pa_nil)))) pa_nil)))))))))))))))), ?_⟩
    have o0 : Own H [rScr K a ns] := (Own.nil H).imm ⟨hS, rfl⟩
    -- many, made, house
    refine ⟨_, rfl, a, ns, rfl, hS, fun many hm1 hm14 => ?_⟩
    refine ⟨_, rfl, _, rfl, a, ns, many, rfl, hS, hm1, by omega, fun m ak ar bs H1 s1 hm hR hnm hok => ?_⟩
    obtain ⟨F1, on1, nd1, fr1⟩ := hR.on
    have o1 : Own H1 [rTup m [.ref ak, .ref ar], rRec ak ar bs, rScr K a ns] := (o0.add s1 on1 nd1 fr1).imm ⟨hm, rfl⟩
    have hbl : (bs.length : Int) = many := by
      have := congrArg List.length hnm
      rw [intsUp_length, List.length_map] at this
      omega
    have hnm' : bs.map (·.name) = intsUp 1 bs.length := by rw [hnm]; congr 1; omega
    rw [← hbl] at hok
    have hm1' := o1.tup (i := 0) rfl
    refine ⟨_, rfl, m, _, 0, .ref ak, rfl, rfl, SqT.of hm1', rfl, _, rfl, m, _, 1, .ref ar, rfl, rfl, SqT.of hm1', rfl, by show 1 ≤ sizeLine; decide, fun as has => ?_⟩
    have o2 := o1.same (Same.new (o := .lst [V.non]) has)
    obtain ⟨fl, hk, hr', pf⟩ := o2.rec (i := 1) rfl
    refine ⟨ak, ar, as, fl, bs, [.non], 0, rfl, hk, hr', pf, ⟨_, upd_same, .cons (show isT _ .non .non from rfl) .nil⟩, hnm', by omega, hok, by decide, by decide, by intro t ht; rw [List.mem_singleton.mp ht]; trivial, by decide, fun p A3 H3 s3 hh3 f3 => ?_⟩
    obtain ⟨S, hSd⟩ : ∃ S : HS, S = ⟨bs.length + 0, [.non], bs.length, bs, e4, e4⟩ := ⟨_, rfl⟩
    have o3 : Own H3 [rHouse C p S, rTup m [.ref ak, .ref ar], rRec ak ar S.boxes, rScr K a ns] := by rw [hSd]; exact o2.houseNew hh3 (Frame.of_same s3) f3
    have hn : names S = intsUp 1 bs.length := by rw [hSd]; exact hnm'
    have hcl : Closed S.boxes := by rw [hSd]; exact Closed.of_ok hnm' hok
    clear hSd hh3 f3 s3
    have hSl : S.boxes.length = bs.length := by
      have := congrArg List.length hn
      rw [intsUp_length] at this
      simpa [names] using this
    have hnd : (S.boxes.map (·.name)).Nodup := by
      have e : S.boxes.map (·.name) = intsUp 1 bs.length := hn
      rw [e]; exact (intsUp_asc _ _).imp fun z => Int.ne_of_lt z
    have pick : ∀ c : Int, ∃ k : Nat, k < bs.length ∧ 1 + c % many = 1 + (k : Int) := fun c => by
      have h1 := Int.emod_nonneg c (show many ≠ 0 by omega)
      have h2 := Int.emod_lt_of_pos c (show (0 : Int) < many by omega)
      exact ⟨(c % many).toNat, by omega, by omega⟩
    have atN : ∀ (S' : HS) (k : Nat), names S' = intsUp 1 bs.length → k < bs.length → ∃ b, S'.boxes[k]? = some b ∧ b.name = 1 + (k : Int) := fun S' k e hk => by
      have hl : S'.boxes.length = bs.length := by
        have := congrArg List.length e
        rw [intsUp_length] at this
        simpa [names] using this
      exact ⟨_, List.getElem?_eq_getElem (by omega), (name_at (n := bs.length) e (List.getElem?_eq_getElem (by omega))).1⟩
    -- one, two
    refine ⟨_, rfl, a, ns, 5, rfl, o3.scr (i := 3) rfl, _, rfl, _, _, rfl, rfl, (by show (0 : Int) < many; omega), _, _, rfl, rfl, ?_⟩
    obtain ⟨k1, hk1, ek1⟩ := pick (drw ns 5)
    dsimp only
    rw [ek1]
    have nmIn : ∀ (S' : HS) (k : Nat), names S' = intsUp 1 bs.length → k < bs.length → (1 + (k : Int)) ∈ names S' := fun S' k e hk => by rw [e, intsUp_mem]; omega
    refine ⟨_, rfl, a, ns, 6, rfl, o3.scr (i := 3) rfl, _, rfl, _, _, rfl, rfl, (by show (0 : Int) < many; omega), _, _, rfl, rfl, ?_⟩
    obtain ⟨k3, hk3, ek3⟩ := pick (drw ns 6)
    dsimp only
    rw [ek3]
    -- held good
    obtain ⟨A4, hh4⟩ := o3.house (i := 0) (C := C) rfl
    have hm4 := o3.tup (i := 1) rfl
    refine ⟨_, rfl, m, _, 0, .ref ak, rfl, rfl, SqT.of hm4, rfl, _, rfl, m, _, 1, .ref ar, rfl, rfl, SqT.of hm4, rfl, _, rfl, _, rfl, _, rfl, _, rfl, _, rfl, p, A4, S, _, _, rfl, hh4, nmIn _ _ hn hk1, nmIn _ _ hn hk3, hcl, by omega, ApOut.of fun v4 H4 s4 hv4 => ?_⟩
    have o4 := o3.same s4
    obtain ⟨fl4, hk4, hr4, pf4⟩ := o4.rec (i := 2) rfl
    refine ⟨ak, ar, S.boxes, fl4, _, _, v4, rfl, hk4, ⟨hr4, pf4⟩, hnd, nmIn _ _ hn hk1, nmIn _ _ hn hk3, hcl, by omega, hv4, fun H7 s7 => ⟨_, rfl, iteB rfl ?_⟩⟩
    have o7 := o4.same s7
    clear o4 o3 hh4 hv4 hm4
    -- other
    refine ⟨_, rfl, a, ns, 7, rfl, o7.scr (i := 3) rfl, _, rfl, _, _, rfl, rfl, (by show (0 : Int) < many; omega), _, _, rfl, rfl, ?_⟩
    obtain ⟨k2, hk2, ek2⟩ := pick (drw ns 7)
    dsimp only
    rw [ek2]
    obtain ⟨b, hb, hbn⟩ := atN S k2 hn hk2
    rw [← hbn]
    -- len(made[1][other]) > 0
    obtain ⟨fl7, a7, ws, hk7, hr7, hl7, ha7, hw7, ht7, fin7⟩ := o7.recPut (j := 2) rfl hb
    have hm7 := o7.tup (i := 1) rfl
    have g7 : DGet H7 ar (.int b.name) (some (.ref a7)) := by rw [← rowAt hl7 hnd hb ha7]; exact DGet.k (k := Sum.inl b.name) hr7
    refine ⟨_, rfl, m, _, 1, .ref ar, rfl, rfl, SqT.of hm7, rfl, _, rfl, ar, .ref a7, rfl, g7, a7, ws, rfl, .inl (SqL.of hw7), _, _, rfl, rfl, _, rfl, ite2 (fun hpos => ?_) (fun _ => ?_)⟩
    · have hpos : (0 : Int) < (ws.length : Int) := of_decide_eq_true hpos
      -- at
      refine ⟨_, rfl, a, ns, 8, rfl, o7.scr (i := 3) rfl, _, rfl, m, _, 1, .ref ar, rfl, rfl, SqT.of hm7, rfl, _, rfl, ar, .ref a7, rfl, g7, a7, ws, rfl, .inl (SqL.of hw7), _, _, rfl, rfl, (by show (0 : Int) < (ws.length : Int); omega), ?_⟩
      have h3 := Int.emod_nonneg (drw ns 8) (show (ws.length : Int) ≠ 0 by omega)
      have h4 := Int.emod_lt_of_pos (drw ns 8) (show (0 : Int) < (ws.length : Int) by omega)
      obtain ⟨at_, hat⟩ : ∃ at_ : Nat, drw ns 8 % (ws.length : Int) = (at_ : Int) := ⟨(drw ns 8 % (ws.length : Int)).toNat, by omega⟩
      dsimp only
      rw [hat]
      have hatl : at_ < b.row.length := by rw [pr_len ht7]; omega
      -- made[1][other][at] = thing
      refine ⟨_, rfl, _, rfl, a, ns, _, many, rfl, o7.scr (i := 3) rfl, hm1, fun t v H8 s8 tv ok => ?_⟩
      have o8 : Own H8 [rTh v t, rHouse C p S, rTup m [.ref ak, .ref ar], rRec ak ar S.boxes, rScr K a ns] := (o7.same s8).imm ⟨tv, rfl⟩
      obtain ⟨fl8, a8, ws8, hk8, hr8, hl8, ha8, hw8, ht8, fin8⟩ := o8.recPut (j := 3) rfl hb
      have hm8 := o8.tup (i := 2) rfl
      have g8 : DGet H8 ar (.int b.name) (some (.ref a8)) := by rw [← rowAt hl8 hnd hb ha8]; exact DGet.k (k := Sum.inl b.name) hr8
      have tin : ∀ n', t = .box n' → n' ∈ names S := fun n' e => by
        subst e
        rw [hn, intsUp_mem]
        exact ⟨ok.1, by have := ok.2; omega⟩
      refine ⟨_, rfl, m, _, 1, .ref ar, rfl, rfl, SqT.of hm8, rfl, _, rfl, ar, .ref a8, rfl, g8, _, rfl, a8, ws8, at_, at_, rfl, rfl, hw8, ixN_nat (by rw [← pr_len ht8]; exact hatl), ?_⟩
      have o9 : Own (upd H8 a8 (.lst (ws8.set at_ v))) [rHouse C p S, rTup m [.ref ak, .ref ar], rRec ak ar (S.put k2 at_ t).boxes, rScr K a ns] := (fin8 t v at_ tv).tail
      generalize upd H8 a8 (.lst (ws8.set at_ v)) = H9 at o9 ⊢
      clear o8 o7 fin8 fin7 tv
      -- house.put(other, at, made[1][other][at])
      have hn10 : names (S.put k2 at_ t) = intsUp 1 bs.length := (setRow_name _ _ _ _).trans hn
      have hcl10 : Closed (S.put k2 at_ t).boxes := hcl.setRow tin
      have hnd10 : ((S.put k2 at_ t).boxes.map (·.name)).Nodup := by
        have e : (S.put k2 at_ t).boxes.map (·.name) = intsUp 1 bs.length := hn10
        rw [e]; exact (intsUp_asc _ _).imp fun z => Int.ne_of_lt z
      have hSl10 : (S.put k2 at_ t).boxes.length = bs.length := by
        have := congrArg List.length hn10
        rw [intsUp_length] at this
        simpa [names] using this
      have hb10 : (S.put k2 at_ t).boxes[k2]? = some { b with row := b.row.set at_ t } := by
        show (setRow S.boxes k2 at_ t)[k2]? = _
        rw [setRow_at, hb]; simp
      obtain ⟨fl9, a9, ws9, hk9, hr9, hl9, ha9, hw9, ht9, _⟩ := o9.recPut (j := 2) rfl hb10
      have hm9 := o9.tup (i := 1) rfl
      have g9 : DGet H9 ar (.int b.name) (some (.ref a9)) := by rw [← rowAt hl9 hnd10 hb10 ha9]; exact DGet.k (k := Sum.inl b.name) hr9
      obtain ⟨v9, hv9, tv9⟩ := pr_get ht9 (show (b.row.set at_ t)[at_]? = some t by simp [hatl])
      obtain ⟨A9, hh9, fout⟩ := o9.houseOut (i := 0) (C := C) rfl
      refine ⟨_, rfl, p, A9.dx, _, rfl, hh9.ob, hf_none (by decide +kernel), _, rfl, _, rfl, _, rfl, m, _, 1, .ref ar, rfl, rfl, SqT.of hm9, rfl, _, rfl, ar, .ref a9, rfl, g9, _, rfl, a9, ws9, at_, v9, rfl, rfl, SqL.of hw9, atI_nat hv9, p, A9, S, k2, b, at_, v9, t, rfl, hh9, hb, hatl, tv9, tin, fun A10 H10 hh10 fr10 tu10 gr10 => ?_⟩
      have o10 : Own H10 [rHouse C p (S.put k2 at_ t), rTup m [.ref ak, .ref ar], rRec ak ar (S.put k2 at_ t).boxes, rScr K a ns] := fout A10 H10 _ hh10 fr10 tu10 gr10
      clear o9 fout hh10 fr10 tu10 gr10 hh9
      generalize S.put k2 at_ t = S10 at o10 hn10 hcl10 hnd10 hSl10 ⊢
      obtain ⟨A11, hh11⟩ := o10.house (i := 0) (C := C) rfl
      have hm11 := o10.tup (i := 1) rfl
      refine ⟨_, rfl, m, _, 0, .ref ak, rfl, rfl, SqT.of hm11, rfl, _, rfl, m, _, 1, .ref ar, rfl, rfl, SqT.of hm11, rfl, _, rfl, _, rfl, _, rfl, _, rfl, _, rfl, p, A11, S10, _, _, rfl, hh11, nmIn _ _ hn10 hk1, nmIn _ _ hn10 hk3, hcl10, by omega, ApOut.of fun v11 H11 s11 hv11 => ?_⟩
      have o11 := o10.same s11
      obtain ⟨fl11, hk11, hr11, pf11⟩ := o11.rec (i := 2) rfl
      exact ⟨ak, ar, S10.boxes, fl11, _, _, v11, rfl, hk11, ⟨hr11, pf11⟩, hnd10, nmIn _ _ hn10 hk1, nmIn _ _ hn10 hk3, hcl10, by omega, hv11, fun H12 _ => q _⟩
    · obtain ⟨A11, hh11⟩ := o7.house (i := 0) (C := C) rfl
      refine ⟨_, rfl, m, _, 0, .ref ak, rfl, rfl, SqT.of hm7, rfl, _, rfl, m, _, 1, .ref ar, rfl, rfl, SqT.of hm7, rfl, _, rfl, _, rfl, _, rfl, _, rfl, _, rfl, p, A11, S, _, _, rfl, hh11, nmIn _ _ hn hk1, nmIn _ _ hn hk3, hcl, by omega, ApOut.of fun v11 H11 s11 hv11 => ?_⟩
      have o11 := o7.same s11
      obtain ⟨fl11, hk11, hr11, pf11⟩ := o11.rec (i := 2) rfl
      exact ⟨ak, ar, S.boxes, fl11, _, _, v11, rfl, hk11, ⟨hr11, pf11⟩, hnd, nmIn _ _ hn hk1, nmIn _ _ hn hk3, hcl, by omega, hv11, fun H12 _ => q _⟩
end
end LW


/-! The names below are taken, so that the head makes no second form (a twin) of the whole heap at each of its cuts: those forms are not needed, and would be two thirds of the compiled file. -/
def PySem.W.Fast.tw16300010681123114117 : Unit := ()
def PySem.W.Fast.tw6424209396346627061 : Unit := ()
def PySem.W.Fast.tw1336944146084958728 : Unit := ()
def PySem.W.Fast.tw11646043888934523523 : Unit := ()
def PySem.W.Fast.tw6359183796522055339 : Unit := ()
def PySem.W.Fast.tw2688844320670205021 : Unit := ()
def PySem.W.Fast.tw7420796989998830608 : Unit := ()
def PySem.W.Fast.tw10695873026692247454 : Unit := ()
def PySem.W.Fast.tw2260745363246574311 : Unit := ()
def PySem.W.Fast.tw2322252652873953210 : Unit := ()
def PySem.W.Fast.tw7378713489580976687 : Unit := ()
def PySem.W.Fast.tw15564525407128521890 : Unit := ()
def PySem.W.Fast.tw14438906300341957402 : Unit := ()
def PySem.W.Fast.tw5750445145974685080 : Unit := ()
def PySem.W.Fast.tw12971380241257201649 : Unit := ()
def PySem.W.Fast.tw16076831773845462772 : Unit := ()
namespace LW
open PySem L2
theorem all_mk {l : PySem.W.OpenLaw} {w : World} {K : PySem.W.Frag} {h : Heap} {mg : Str → Option Value} {fa CHouse x_f_law_cell_at x_f_law_mid x_f_law_draw x_f_law_twin x_f_law_number x_f_law_thing x_f_law_graph x_f_law_either x_m_House_init T_m_House_init x_m_House_check_slot x_m_House_has_room x_m_House_make_room T_m_House_make_room x_f_box_name x_f_box_thing x_f_renamed x_m_House_build x_m_House_make T_m_House_make x_m_House_check_box x_m_House_check_thing x_m_House_check_field x_m_House_put x_m_House_hold x_f_law_house x_f_law_look x_f_law_close x_f_law_whole x_f_law_road x_f_law_held_good x_m_House_names x_m_House_size x_m_House_field x_f_things_in x_m_House_kind x_f_row_of x_f_looks_of x_f_road_to x_f_steps_from x_f_apart x_f_law aF : Addr} (X : K.In h) (G : h.Ns mainGlobals mg) (hfa : mg "law" = some (.ref fa))
    {od_f_law_cell_at an_f_law_cell_at od_f_law_mid an_f_law_mid od_f_law_draw an_f_law_draw od_f_law_twin an_f_law_twin od_f_law_number an_f_law_number od_f_law_thing an_f_law_thing od_f_law_graph an_f_law_graph od_f_law_either an_f_law_either od_m_House_init an_m_House_init od_m_House_check_slot an_m_House_check_slot od_m_House_has_room an_m_House_has_room od_m_House_make_room an_m_House_make_room od_f_box_name an_f_box_name od_f_box_thing an_f_box_thing od_f_renamed an_f_renamed od_m_House_build an_m_House_build od_m_House_make an_m_House_make od_m_House_check_box an_m_House_check_box od_m_House_check_thing an_m_House_check_thing od_m_House_check_field an_m_House_check_field od_m_House_put an_m_House_put od_m_House_hold an_m_House_hold od_f_law_house an_f_law_house od_f_law_look an_f_law_look od_f_law_close an_f_law_close od_f_law_whole an_f_law_whole od_f_law_road an_f_law_road od_f_law_held_good an_f_law_held_good od_m_House_names an_m_House_names od_m_House_size an_m_House_size od_m_House_field an_m_House_field od_f_things_in an_f_things_in od_m_House_kind an_m_House_kind od_f_row_of an_f_row_of od_f_looks_of an_f_looks_of od_f_road_to an_f_road_to od_f_steps_from an_f_steps_from od_f_apart an_f_apart od_f_law an_f_law : Option Addr} {sl_f_law_cell_at sl_f_law_mid sl_f_law_draw sl_f_law_twin sl_f_law_number sl_f_law_thing sl_f_law_graph sl_f_law_either sl_m_House_init sl_m_House_check_slot sl_m_House_has_room sl_m_House_make_room sl_f_box_name sl_f_box_thing sl_f_renamed sl_m_House_build sl_m_House_make sl_m_House_check_box sl_m_House_check_thing sl_m_House_check_field sl_m_House_put sl_m_House_hold sl_f_law_house sl_f_law_look sl_f_law_close sl_f_law_whole sl_f_law_road sl_f_law_held_good sl_m_House_names sl_m_House_size sl_m_House_field sl_f_things_in sl_m_House_kind sl_f_row_of sl_f_looks_of sl_f_road_to sl_f_steps_from sl_f_apart sl_f_law : Array (Option Value)} {oc_f_law_cell_at kV_f_law_cell_at dc_f_law_cell_at pm_f_law_cell_at cd_f_law_cell_at ct_f_law_cell_at oc_f_law_mid kV_f_law_mid dc_f_law_mid pm_f_law_mid cd_f_law_mid ct_f_law_mid oc_f_law_draw kV_f_law_draw dc_f_law_draw pm_f_law_draw cd_f_law_draw ct_f_law_draw oc_f_law_twin kV_f_law_twin dc_f_law_twin pm_f_law_twin cd_f_law_twin ct_f_law_twin oc_f_law_number kV_f_law_number dc_f_law_number pm_f_law_number cd_f_law_number ct_f_law_number oc_f_law_thing kV_f_law_thing dc_f_law_thing pm_f_law_thing cd_f_law_thing ct_f_law_thing oc_f_law_graph kV_f_law_graph dc_f_law_graph pm_f_law_graph cd_f_law_graph ct_f_law_graph oc_f_law_either kV_f_law_either dc_f_law_either pm_f_law_either cd_f_law_either ct_f_law_either oc_m_House_init kV_m_House_init dc_m_House_init pm_m_House_init cd_m_House_init ct_m_House_init oc_m_House_check_slot kV_m_House_check_slot dc_m_House_check_slot pm_m_House_check_slot cd_m_House_check_slot ct_m_House_check_slot oc_m_House_has_room kV_m_House_has_room dc_m_House_has_room pm_m_House_has_room cd_m_House_has_room ct_m_House_has_room oc_m_House_make_room kV_m_House_make_room dc_m_House_make_room pm_m_House_make_room cd_m_House_make_room ct_m_House_make_room oc_f_box_name kV_f_box_name dc_f_box_name pm_f_box_name cd_f_box_name ct_f_box_name oc_f_box_thing kV_f_box_thing dc_f_box_thing pm_f_box_thing cd_f_box_thing ct_f_box_thing oc_f_renamed kV_f_renamed dc_f_renamed pm_f_renamed cd_f_renamed ct_f_renamed oc_m_House_build kV_m_House_build dc_m_House_build pm_m_House_build cd_m_House_build ct_m_House_build oc_m_House_make kV_m_House_make dc_m_House_make pm_m_House_make cd_m_House_make ct_m_House_make oc_m_House_check_box kV_m_House_check_box dc_m_House_check_box pm_m_House_check_box cd_m_House_check_box ct_m_House_check_box oc_m_House_check_thing kV_m_House_check_thing dc_m_House_check_thing pm_m_House_check_thing cd_m_House_check_thing ct_m_House_check_thing oc_m_House_check_field kV_m_House_check_field dc_m_House_check_field pm_m_House_check_field cd_m_House_check_field ct_m_House_check_field oc_m_House_put kV_m_House_put dc_m_House_put pm_m_House_put cd_m_House_put ct_m_House_put oc_m_House_hold kV_m_House_hold dc_m_House_hold pm_m_House_hold cd_m_House_hold ct_m_House_hold oc_f_law_house kV_f_law_house dc_f_law_house pm_f_law_house cd_f_law_house ct_f_law_house oc_f_law_look kV_f_law_look dc_f_law_look pm_f_law_look cd_f_law_look ct_f_law_look oc_f_law_close kV_f_law_close dc_f_law_close pm_f_law_close cd_f_law_close ct_f_law_close oc_f_law_whole kV_f_law_whole dc_f_law_whole pm_f_law_whole cd_f_law_whole ct_f_law_whole oc_f_law_road kV_f_law_road dc_f_law_road pm_f_law_road cd_f_law_road ct_f_law_road oc_f_law_held_good kV_f_law_held_good dc_f_law_held_good pm_f_law_held_good cd_f_law_held_good ct_f_law_held_good oc_m_House_names kV_m_House_names dc_m_House_names pm_m_House_names cd_m_House_names ct_m_House_names oc_m_House_size kV_m_House_size dc_m_House_size pm_m_House_size cd_m_House_size ct_m_House_size oc_m_House_field kV_m_House_field dc_m_House_field pm_m_House_field cd_m_House_field ct_m_House_field oc_f_things_in kV_f_things_in dc_f_things_in pm_f_things_in cd_f_things_in ct_f_things_in oc_m_House_kind kV_m_House_kind dc_m_House_kind pm_m_House_kind cd_m_House_kind ct_m_House_kind oc_f_row_of kV_f_row_of dc_f_row_of pm_f_row_of cd_f_row_of ct_f_row_of oc_f_looks_of kV_f_looks_of dc_f_looks_of pm_f_looks_of cd_f_looks_of ct_f_looks_of oc_f_road_to kV_f_road_to dc_f_road_to pm_f_road_to cd_f_road_to ct_f_road_to oc_f_steps_from kV_f_steps_from dc_f_steps_from pm_f_steps_from cd_f_steps_from ct_f_steps_from oc_f_apart kV_f_apart dc_f_apart pm_f_apart cd_f_apart ct_f_apart oc_f_law kV_f_law dc_f_law pm_f_law cd_f_law ct_f_law : Value} {t_m_House_init_0 t_m_House_make_0 t_m_House_make_1 tg tw1 tw2 tw3 tw4 : Tok} {ep_m_House_init ep_m_House_make_room ep_m_House_make ep0 : Nat}
    {hs1 hs2 : Int}
    (aCHouse : PySem.W.nsIn K mainGlobals "House" = some (some (.ref CHouse)))
    (a_f_law_cell_at : PySem.W.nsIn K mainGlobals "_law_cell_at" = some (some (.ref x_f_law_cell_at)))
    (l_f_law_cell_at : K.lookup x_f_law_cell_at = some ⟨oc_f_law_cell_at, od_f_law_cell_at, .func (PySem.W.fnOf "_law_cell_at" "_law_cell_at" (defArgs s_f_law_cell_at) (defBody s_f_law_cell_at) (defScope s_f_law_cell_at) .none kV_f_law_cell_at dc_f_law_cell_at pm_f_law_cell_at an_f_law_cell_at cd_f_law_cell_at ct_f_law_cell_at), sl_f_law_cell_at⟩)
    (c_f_law_cell_at : PySem.W.codeIn K cd_f_law_cell_at "_law_cell_at" = true)
    (k_f_law_cell_at : PySem.W.keepIn K (.ref x_f_law_cell_at) = true)
    (a_f_law_mid : PySem.W.nsIn K mainGlobals "_law_mid" = some (some (.ref x_f_law_mid)))
    (l_f_law_mid : K.lookup x_f_law_mid = some ⟨oc_f_law_mid, od_f_law_mid, .func (PySem.W.fnOf "_law_mid" "_law_mid" (defArgs s_f_law_mid) (defBody s_f_law_mid) (defScope s_f_law_mid) .none kV_f_law_mid dc_f_law_mid pm_f_law_mid an_f_law_mid cd_f_law_mid ct_f_law_mid), sl_f_law_mid⟩)
    (c_f_law_mid : PySem.W.codeIn K cd_f_law_mid "_law_mid" = true)
    (k_f_law_mid : PySem.W.keepIn K (.ref x_f_law_mid) = true)
    (a_f_law_draw : PySem.W.nsIn K mainGlobals "_law_draw" = some (some (.ref x_f_law_draw)))
    (l_f_law_draw : K.lookup x_f_law_draw = some ⟨oc_f_law_draw, od_f_law_draw, .func (PySem.W.fnOf "_law_draw" "_law_draw" (defArgs s_f_law_draw) (defBody s_f_law_draw) (defScope s_f_law_draw) .none kV_f_law_draw dc_f_law_draw pm_f_law_draw an_f_law_draw cd_f_law_draw ct_f_law_draw), sl_f_law_draw⟩)
    (c_f_law_draw : PySem.W.codeIn K cd_f_law_draw "_law_draw" = true)
    (k_f_law_draw : PySem.W.keepIn K (.ref x_f_law_draw) = true)
    (a_f_law_twin : PySem.W.nsIn K mainGlobals "_law_twin" = some (some (.ref x_f_law_twin)))
    (l_f_law_twin : K.lookup x_f_law_twin = some ⟨oc_f_law_twin, od_f_law_twin, .func (PySem.W.fnOf "_law_twin" "_law_twin" (defArgs s_f_law_twin) (defBody s_f_law_twin) (defScope s_f_law_twin) .none kV_f_law_twin dc_f_law_twin pm_f_law_twin an_f_law_twin cd_f_law_twin ct_f_law_twin), sl_f_law_twin⟩)
    (c_f_law_twin : PySem.W.codeIn K cd_f_law_twin "_law_twin" = true)
    (k_f_law_twin : PySem.W.keepIn K (.ref x_f_law_twin) = true)
    (a_f_law_number : PySem.W.nsIn K mainGlobals "_law_number" = some (some (.ref x_f_law_number)))
    (l_f_law_number : K.lookup x_f_law_number = some ⟨oc_f_law_number, od_f_law_number, .func (PySem.W.fnOf "_law_number" "_law_number" (defArgs s_f_law_number) (defBody s_f_law_number) (defScope s_f_law_number) .none kV_f_law_number dc_f_law_number pm_f_law_number an_f_law_number cd_f_law_number ct_f_law_number), sl_f_law_number⟩)
    (c_f_law_number : PySem.W.codeIn K cd_f_law_number "_law_number" = true)
    (k_f_law_number : PySem.W.keepIn K (.ref x_f_law_number) = true)
    (a_f_law_thing : PySem.W.nsIn K mainGlobals "_law_thing" = some (some (.ref x_f_law_thing)))
    (l_f_law_thing : K.lookup x_f_law_thing = some ⟨oc_f_law_thing, od_f_law_thing, .func (PySem.W.fnOf "_law_thing" "_law_thing" (defArgs s_f_law_thing) (defBody s_f_law_thing) (defScope s_f_law_thing) .none kV_f_law_thing dc_f_law_thing pm_f_law_thing an_f_law_thing cd_f_law_thing ct_f_law_thing), sl_f_law_thing⟩)
    (c_f_law_thing : PySem.W.codeIn K cd_f_law_thing "_law_thing" = true)
    (k_f_law_thing : PySem.W.keepIn K (.ref x_f_law_thing) = true)
    (a_f_law_graph : PySem.W.nsIn K mainGlobals "_law_graph" = some (some (.ref x_f_law_graph)))
    (l_f_law_graph : K.lookup x_f_law_graph = some ⟨oc_f_law_graph, od_f_law_graph, .func (PySem.W.fnOf "_law_graph" "_law_graph" (defArgs s_f_law_graph) (defBody s_f_law_graph) (defScope s_f_law_graph) .none kV_f_law_graph dc_f_law_graph pm_f_law_graph an_f_law_graph cd_f_law_graph ct_f_law_graph), sl_f_law_graph⟩)
    (c_f_law_graph : PySem.W.codeIn K cd_f_law_graph "_law_graph" = true)
    (k_f_law_graph : PySem.W.keepIn K (.ref x_f_law_graph) = true)
    (a_f_law_either : PySem.W.nsIn K mainGlobals "_law_either" = some (some (.ref x_f_law_either)))
    (l_f_law_either : K.lookup x_f_law_either = some ⟨oc_f_law_either, od_f_law_either, .func (PySem.W.fnOf "_law_either" "_law_either" (defArgs s_f_law_either) (defBody s_f_law_either) (defScope s_f_law_either) .none kV_f_law_either dc_f_law_either pm_f_law_either an_f_law_either cd_f_law_either ct_f_law_either), sl_f_law_either⟩)
    (c_f_law_either : PySem.W.codeIn K cd_f_law_either "_law_either" = true)
    (k_f_law_either : PySem.W.keepIn K (.ref x_f_law_either) = true)
    (a_m_House_init : PySem.W.findIn K (.ref CHouse) "__init__" = some (some (.ref x_m_House_init)))
    (i_m_House_init : PySem.W.isFn K (.ref x_m_House_init) = true)
    (l_m_House_init : K.lookup x_m_House_init = some ⟨oc_m_House_init, od_m_House_init, .func (PySem.W.fnOf "__init__" "House.__init__" (defArgs s_m_House_init) (defBody s_m_House_init) (defScope s_m_House_init) (.ref T_m_House_init) kV_m_House_init dc_m_House_init pm_m_House_init an_m_House_init cd_m_House_init ct_m_House_init), sl_m_House_init⟩)
    (c_m_House_init : PySem.W.codeIn K cd_m_House_init "House.__init__" = true)
    (k_m_House_init : PySem.W.keepIn K (.ref x_m_House_init) = true)
    (t_m_House_init : K.lookup T_m_House_init = some ⟨.type "tuple", none, .seq (List.toArray [.int 4 t_m_House_init_0]) ep_m_House_init, #[]⟩)
    (a_m_House_check_slot : PySem.W.findIn K (.ref CHouse) "check_slot" = some (some (.ref x_m_House_check_slot)))
    (i_m_House_check_slot : PySem.W.isFn K (.ref x_m_House_check_slot) = true)
    (l_m_House_check_slot : K.lookup x_m_House_check_slot = some ⟨oc_m_House_check_slot, od_m_House_check_slot, .func (PySem.W.fnOf "check_slot" "House.check_slot" (defArgs s_m_House_check_slot) (defBody s_m_House_check_slot) (defScope s_m_House_check_slot) .none kV_m_House_check_slot dc_m_House_check_slot pm_m_House_check_slot an_m_House_check_slot cd_m_House_check_slot ct_m_House_check_slot), sl_m_House_check_slot⟩)
    (c_m_House_check_slot : PySem.W.codeIn K cd_m_House_check_slot "House.check_slot" = true)
    (k_m_House_check_slot : PySem.W.keepIn K (.ref x_m_House_check_slot) = true)
    (a_m_House_has_room : PySem.W.findIn K (.ref CHouse) "has_room" = some (some (.ref x_m_House_has_room)))
    (i_m_House_has_room : PySem.W.isFn K (.ref x_m_House_has_room) = true)
    (l_m_House_has_room : K.lookup x_m_House_has_room = some ⟨oc_m_House_has_room, od_m_House_has_room, .func (PySem.W.fnOf "has_room" "House.has_room" (defArgs s_m_House_has_room) (defBody s_m_House_has_room) (defScope s_m_House_has_room) .none kV_m_House_has_room dc_m_House_has_room pm_m_House_has_room an_m_House_has_room cd_m_House_has_room ct_m_House_has_room), sl_m_House_has_room⟩)
    (c_m_House_has_room : PySem.W.codeIn K cd_m_House_has_room "House.has_room" = true)
    (k_m_House_has_room : PySem.W.keepIn K (.ref x_m_House_has_room) = true)
    (a_m_House_make_room : PySem.W.findIn K (.ref CHouse) "make_room" = some (some (.ref x_m_House_make_room)))
    (i_m_House_make_room : PySem.W.isFn K (.ref x_m_House_make_room) = true)
    (l_m_House_make_room : K.lookup x_m_House_make_room = some ⟨oc_m_House_make_room, od_m_House_make_room, .func (PySem.W.fnOf "make_room" "House.make_room" (defArgs s_m_House_make_room) (defBody s_m_House_make_room) (defScope s_m_House_make_room) (.ref T_m_House_make_room) kV_m_House_make_room dc_m_House_make_room pm_m_House_make_room an_m_House_make_room cd_m_House_make_room ct_m_House_make_room), sl_m_House_make_room⟩)
    (c_m_House_make_room : PySem.W.codeIn K cd_m_House_make_room "House.make_room" = true)
    (k_m_House_make_room : PySem.W.keepIn K (.ref x_m_House_make_room) = true)
    (t_m_House_make_room : K.lookup T_m_House_make_room = some ⟨.type "tuple", none, .seq (List.toArray [.none]) ep_m_House_make_room, #[]⟩)
    (a_f_box_name : PySem.W.nsIn K mainGlobals "box_name" = some (some (.ref x_f_box_name)))
    (l_f_box_name : K.lookup x_f_box_name = some ⟨oc_f_box_name, od_f_box_name, .func (PySem.W.fnOf "box_name" "box_name" (defArgs s_f_box_name) (defBody s_f_box_name) (defScope s_f_box_name) .none kV_f_box_name dc_f_box_name pm_f_box_name an_f_box_name cd_f_box_name ct_f_box_name), sl_f_box_name⟩)
    (c_f_box_name : PySem.W.codeIn K cd_f_box_name "box_name" = true)
    (k_f_box_name : PySem.W.keepIn K (.ref x_f_box_name) = true)
    (a_f_box_thing : PySem.W.nsIn K mainGlobals "box_thing" = some (some (.ref x_f_box_thing)))
    (l_f_box_thing : K.lookup x_f_box_thing = some ⟨oc_f_box_thing, od_f_box_thing, .func (PySem.W.fnOf "box_thing" "box_thing" (defArgs s_f_box_thing) (defBody s_f_box_thing) (defScope s_f_box_thing) .none kV_f_box_thing dc_f_box_thing pm_f_box_thing an_f_box_thing cd_f_box_thing ct_f_box_thing), sl_f_box_thing⟩)
    (c_f_box_thing : PySem.W.codeIn K cd_f_box_thing "box_thing" = true)
    (k_f_box_thing : PySem.W.keepIn K (.ref x_f_box_thing) = true)
    (a_f_renamed : PySem.W.nsIn K mainGlobals "renamed" = some (some (.ref x_f_renamed)))
    (l_f_renamed : K.lookup x_f_renamed = some ⟨oc_f_renamed, od_f_renamed, .func (PySem.W.fnOf "renamed" "renamed" (defArgs s_f_renamed) (defBody s_f_renamed) (defScope s_f_renamed) .none kV_f_renamed dc_f_renamed pm_f_renamed an_f_renamed cd_f_renamed ct_f_renamed), sl_f_renamed⟩)
    (c_f_renamed : PySem.W.codeIn K cd_f_renamed "renamed" = true)
    (k_f_renamed : PySem.W.keepIn K (.ref x_f_renamed) = true)
    (a_m_House_build : PySem.W.findIn K (.ref CHouse) "build" = some (some (.ref x_m_House_build)))
    (i_m_House_build : PySem.W.isFn K (.ref x_m_House_build) = true)
    (l_m_House_build : K.lookup x_m_House_build = some ⟨oc_m_House_build, od_m_House_build, .func (PySem.W.fnOf "build" "House.build" (defArgs s_m_House_build) (defBody s_m_House_build) (defScope s_m_House_build) .none kV_m_House_build dc_m_House_build pm_m_House_build an_m_House_build cd_m_House_build ct_m_House_build), sl_m_House_build⟩)
    (c_m_House_build : PySem.W.codeIn K cd_m_House_build "House.build" = true)
    (k_m_House_build : PySem.W.keepIn K (.ref x_m_House_build) = true)
    (a_m_House_make : PySem.W.findIn K (.ref CHouse) "make" = some (some (.ref x_m_House_make)))
    (i_m_House_make : PySem.W.isFn K (.ref x_m_House_make) = true)
    (l_m_House_make : K.lookup x_m_House_make = some ⟨oc_m_House_make, od_m_House_make, .func (PySem.W.fnOf "make" "House.make" (defArgs s_m_House_make) (defBody s_m_House_make) (defScope s_m_House_make) (.ref T_m_House_make) kV_m_House_make dc_m_House_make pm_m_House_make an_m_House_make cd_m_House_make ct_m_House_make), sl_m_House_make⟩)
    (c_m_House_make : PySem.W.codeIn K cd_m_House_make "House.make" = true)
    (k_m_House_make : PySem.W.keepIn K (.ref x_m_House_make) = true)
    (t_m_House_make : K.lookup T_m_House_make = some ⟨.type "tuple", none, .seq (List.toArray [.int 0 t_m_House_make_0, .int 0 t_m_House_make_1]) ep_m_House_make, #[]⟩)
    (a_m_House_check_box : PySem.W.findIn K (.ref CHouse) "check_box" = some (some (.ref x_m_House_check_box)))
    (i_m_House_check_box : PySem.W.isFn K (.ref x_m_House_check_box) = true)
    (l_m_House_check_box : K.lookup x_m_House_check_box = some ⟨oc_m_House_check_box, od_m_House_check_box, .func (PySem.W.fnOf "check_box" "House.check_box" (defArgs s_m_House_check_box) (defBody s_m_House_check_box) (defScope s_m_House_check_box) .none kV_m_House_check_box dc_m_House_check_box pm_m_House_check_box an_m_House_check_box cd_m_House_check_box ct_m_House_check_box), sl_m_House_check_box⟩)
    (c_m_House_check_box : PySem.W.codeIn K cd_m_House_check_box "House.check_box" = true)
    (k_m_House_check_box : PySem.W.keepIn K (.ref x_m_House_check_box) = true)
    (a_m_House_check_thing : PySem.W.findIn K (.ref CHouse) "check_thing" = some (some (.ref x_m_House_check_thing)))
    (i_m_House_check_thing : PySem.W.isFn K (.ref x_m_House_check_thing) = true)
    (l_m_House_check_thing : K.lookup x_m_House_check_thing = some ⟨oc_m_House_check_thing, od_m_House_check_thing, .func (PySem.W.fnOf "check_thing" "House.check_thing" (defArgs s_m_House_check_thing) (defBody s_m_House_check_thing) (defScope s_m_House_check_thing) .none kV_m_House_check_thing dc_m_House_check_thing pm_m_House_check_thing an_m_House_check_thing cd_m_House_check_thing ct_m_House_check_thing), sl_m_House_check_thing⟩)
    (c_m_House_check_thing : PySem.W.codeIn K cd_m_House_check_thing "House.check_thing" = true)
    (k_m_House_check_thing : PySem.W.keepIn K (.ref x_m_House_check_thing) = true)
    (a_m_House_check_field : PySem.W.findIn K (.ref CHouse) "check_field" = some (some (.ref x_m_House_check_field)))
    (i_m_House_check_field : PySem.W.isFn K (.ref x_m_House_check_field) = true)
    (l_m_House_check_field : K.lookup x_m_House_check_field = some ⟨oc_m_House_check_field, od_m_House_check_field, .func (PySem.W.fnOf "check_field" "House.check_field" (defArgs s_m_House_check_field) (defBody s_m_House_check_field) (defScope s_m_House_check_field) .none kV_m_House_check_field dc_m_House_check_field pm_m_House_check_field an_m_House_check_field cd_m_House_check_field ct_m_House_check_field), sl_m_House_check_field⟩)
    (c_m_House_check_field : PySem.W.codeIn K cd_m_House_check_field "House.check_field" = true)
    (k_m_House_check_field : PySem.W.keepIn K (.ref x_m_House_check_field) = true)
    (a_m_House_put : PySem.W.findIn K (.ref CHouse) "put" = some (some (.ref x_m_House_put)))
    (i_m_House_put : PySem.W.isFn K (.ref x_m_House_put) = true)
    (l_m_House_put : K.lookup x_m_House_put = some ⟨oc_m_House_put, od_m_House_put, .func (PySem.W.fnOf "put" "House.put" (defArgs s_m_House_put) (defBody s_m_House_put) (defScope s_m_House_put) .none kV_m_House_put dc_m_House_put pm_m_House_put an_m_House_put cd_m_House_put ct_m_House_put), sl_m_House_put⟩)
    (c_m_House_put : PySem.W.codeIn K cd_m_House_put "House.put" = true)
    (k_m_House_put : PySem.W.keepIn K (.ref x_m_House_put) = true)
    (a_m_House_hold : PySem.W.findIn K (.ref CHouse) "hold" = some (some (.ref x_m_House_hold)))
    (i_m_House_hold : PySem.W.isFn K (.ref x_m_House_hold) = true)
    (l_m_House_hold : K.lookup x_m_House_hold = some ⟨oc_m_House_hold, od_m_House_hold, .func (PySem.W.fnOf "hold" "House.hold" (defArgs s_m_House_hold) (defBody s_m_House_hold) (defScope s_m_House_hold) .none kV_m_House_hold dc_m_House_hold pm_m_House_hold an_m_House_hold cd_m_House_hold ct_m_House_hold), sl_m_House_hold⟩)
    (c_m_House_hold : PySem.W.codeIn K cd_m_House_hold "House.hold" = true)
    (k_m_House_hold : PySem.W.keepIn K (.ref x_m_House_hold) = true)
    (a_f_law_house : PySem.W.nsIn K mainGlobals "_law_house" = some (some (.ref x_f_law_house)))
    (l_f_law_house : K.lookup x_f_law_house = some ⟨oc_f_law_house, od_f_law_house, .func (PySem.W.fnOf "_law_house" "_law_house" (defArgs s_f_law_house) (defBody s_f_law_house) (defScope s_f_law_house) .none kV_f_law_house dc_f_law_house pm_f_law_house an_f_law_house cd_f_law_house ct_f_law_house), sl_f_law_house⟩)
    (c_f_law_house : PySem.W.codeIn K cd_f_law_house "_law_house" = true)
    (k_f_law_house : PySem.W.keepIn K (.ref x_f_law_house) = true)
    (a_f_law_look : PySem.W.nsIn K mainGlobals "_law_look" = some (some (.ref x_f_law_look)))
    (l_f_law_look : K.lookup x_f_law_look = some ⟨oc_f_law_look, od_f_law_look, .func (PySem.W.fnOf "_law_look" "_law_look" (defArgs s_f_law_look) (defBody s_f_law_look) (defScope s_f_law_look) .none kV_f_law_look dc_f_law_look pm_f_law_look an_f_law_look cd_f_law_look ct_f_law_look), sl_f_law_look⟩)
    (c_f_law_look : PySem.W.codeIn K cd_f_law_look "_law_look" = true)
    (k_f_law_look : PySem.W.keepIn K (.ref x_f_law_look) = true)
    (a_f_law_close : PySem.W.nsIn K mainGlobals "_law_close" = some (some (.ref x_f_law_close)))
    (l_f_law_close : K.lookup x_f_law_close = some ⟨oc_f_law_close, od_f_law_close, .func (PySem.W.fnOf "_law_close" "_law_close" (defArgs s_f_law_close) (defBody s_f_law_close) (defScope s_f_law_close) .none kV_f_law_close dc_f_law_close pm_f_law_close an_f_law_close cd_f_law_close ct_f_law_close), sl_f_law_close⟩)
    (c_f_law_close : PySem.W.codeIn K cd_f_law_close "_law_close" = true)
    (k_f_law_close : PySem.W.keepIn K (.ref x_f_law_close) = true)
    (a_f_law_whole : PySem.W.nsIn K mainGlobals "_law_whole" = some (some (.ref x_f_law_whole)))
    (l_f_law_whole : K.lookup x_f_law_whole = some ⟨oc_f_law_whole, od_f_law_whole, .func (PySem.W.fnOf "_law_whole" "_law_whole" (defArgs s_f_law_whole) (defBody s_f_law_whole) (defScope s_f_law_whole) .none kV_f_law_whole dc_f_law_whole pm_f_law_whole an_f_law_whole cd_f_law_whole ct_f_law_whole), sl_f_law_whole⟩)
    (c_f_law_whole : PySem.W.codeIn K cd_f_law_whole "_law_whole" = true)
    (k_f_law_whole : PySem.W.keepIn K (.ref x_f_law_whole) = true)
    (a_f_law_road : PySem.W.nsIn K mainGlobals "_law_road" = some (some (.ref x_f_law_road)))
    (l_f_law_road : K.lookup x_f_law_road = some ⟨oc_f_law_road, od_f_law_road, .func (PySem.W.fnOf "_law_road" "_law_road" (defArgs s_f_law_road) (defBody s_f_law_road) (defScope s_f_law_road) .none kV_f_law_road dc_f_law_road pm_f_law_road an_f_law_road cd_f_law_road ct_f_law_road), sl_f_law_road⟩)
    (c_f_law_road : PySem.W.codeIn K cd_f_law_road "_law_road" = true)
    (k_f_law_road : PySem.W.keepIn K (.ref x_f_law_road) = true)
    (a_f_law_held_good : PySem.W.nsIn K mainGlobals "_law_held_good" = some (some (.ref x_f_law_held_good)))
    (l_f_law_held_good : K.lookup x_f_law_held_good = some ⟨oc_f_law_held_good, od_f_law_held_good, .func (PySem.W.fnOf "_law_held_good" "_law_held_good" (defArgs s_f_law_held_good) (defBody s_f_law_held_good) (defScope s_f_law_held_good) .none kV_f_law_held_good dc_f_law_held_good pm_f_law_held_good an_f_law_held_good cd_f_law_held_good ct_f_law_held_good), sl_f_law_held_good⟩)
    (c_f_law_held_good : PySem.W.codeIn K cd_f_law_held_good "_law_held_good" = true)
    (k_f_law_held_good : PySem.W.keepIn K (.ref x_f_law_held_good) = true)
    (a_m_House_names : PySem.W.findIn K (.ref CHouse) "names" = some (some (.ref x_m_House_names)))
    (i_m_House_names : PySem.W.isFn K (.ref x_m_House_names) = true)
    (l_m_House_names : K.lookup x_m_House_names = some ⟨oc_m_House_names, od_m_House_names, .func (PySem.W.fnOf "names" "House.names" (defArgs s_m_House_names) (defBody s_m_House_names) (defScope s_m_House_names) .none kV_m_House_names dc_m_House_names pm_m_House_names an_m_House_names cd_m_House_names ct_m_House_names), sl_m_House_names⟩)
    (c_m_House_names : PySem.W.codeIn K cd_m_House_names "House.names" = true)
    (k_m_House_names : PySem.W.keepIn K (.ref x_m_House_names) = true)
    (a_m_House_size : PySem.W.findIn K (.ref CHouse) "size" = some (some (.ref x_m_House_size)))
    (i_m_House_size : PySem.W.isFn K (.ref x_m_House_size) = true)
    (l_m_House_size : K.lookup x_m_House_size = some ⟨oc_m_House_size, od_m_House_size, .func (PySem.W.fnOf "size" "House.size" (defArgs s_m_House_size) (defBody s_m_House_size) (defScope s_m_House_size) .none kV_m_House_size dc_m_House_size pm_m_House_size an_m_House_size cd_m_House_size ct_m_House_size), sl_m_House_size⟩)
    (c_m_House_size : PySem.W.codeIn K cd_m_House_size "House.size" = true)
    (k_m_House_size : PySem.W.keepIn K (.ref x_m_House_size) = true)
    (a_m_House_field : PySem.W.findIn K (.ref CHouse) "field" = some (some (.ref x_m_House_field)))
    (i_m_House_field : PySem.W.isFn K (.ref x_m_House_field) = true)
    (l_m_House_field : K.lookup x_m_House_field = some ⟨oc_m_House_field, od_m_House_field, .func (PySem.W.fnOf "field" "House.field" (defArgs s_m_House_field) (defBody s_m_House_field) (defScope s_m_House_field) .none kV_m_House_field dc_m_House_field pm_m_House_field an_m_House_field cd_m_House_field ct_m_House_field), sl_m_House_field⟩)
    (c_m_House_field : PySem.W.codeIn K cd_m_House_field "House.field" = true)
    (k_m_House_field : PySem.W.keepIn K (.ref x_m_House_field) = true)
    (a_f_things_in : PySem.W.nsIn K mainGlobals "things_in" = some (some (.ref x_f_things_in)))
    (l_f_things_in : K.lookup x_f_things_in = some ⟨oc_f_things_in, od_f_things_in, .func (PySem.W.fnOf "things_in" "things_in" (defArgs s_f_things_in) (defBody s_f_things_in) (defScope s_f_things_in) .none kV_f_things_in dc_f_things_in pm_f_things_in an_f_things_in cd_f_things_in ct_f_things_in), sl_f_things_in⟩)
    (c_f_things_in : PySem.W.codeIn K cd_f_things_in "things_in" = true)
    (k_f_things_in : PySem.W.keepIn K (.ref x_f_things_in) = true)
    (a_m_House_kind : PySem.W.findIn K (.ref CHouse) "kind" = some (some (.ref x_m_House_kind)))
    (i_m_House_kind : PySem.W.isFn K (.ref x_m_House_kind) = true)
    (l_m_House_kind : K.lookup x_m_House_kind = some ⟨oc_m_House_kind, od_m_House_kind, .func (PySem.W.fnOf "kind" "House.kind" (defArgs s_m_House_kind) (defBody s_m_House_kind) (defScope s_m_House_kind) .none kV_m_House_kind dc_m_House_kind pm_m_House_kind an_m_House_kind cd_m_House_kind ct_m_House_kind), sl_m_House_kind⟩)
    (c_m_House_kind : PySem.W.codeIn K cd_m_House_kind "House.kind" = true)
    (k_m_House_kind : PySem.W.keepIn K (.ref x_m_House_kind) = true)
    (a_f_row_of : PySem.W.nsIn K mainGlobals "row_of" = some (some (.ref x_f_row_of)))
    (l_f_row_of : K.lookup x_f_row_of = some ⟨oc_f_row_of, od_f_row_of, .func (PySem.W.fnOf "row_of" "row_of" (defArgs s_f_row_of) (defBody s_f_row_of) (defScope s_f_row_of) .none kV_f_row_of dc_f_row_of pm_f_row_of an_f_row_of cd_f_row_of ct_f_row_of), sl_f_row_of⟩)
    (c_f_row_of : PySem.W.codeIn K cd_f_row_of "row_of" = true)
    (k_f_row_of : PySem.W.keepIn K (.ref x_f_row_of) = true)
    (a_f_looks_of : PySem.W.nsIn K mainGlobals "looks_of" = some (some (.ref x_f_looks_of)))
    (l_f_looks_of : K.lookup x_f_looks_of = some ⟨oc_f_looks_of, od_f_looks_of, .func (PySem.W.fnOf "looks_of" "looks_of" (defArgs s_f_looks_of) (defBody s_f_looks_of) (defScope s_f_looks_of) .none kV_f_looks_of dc_f_looks_of pm_f_looks_of an_f_looks_of cd_f_looks_of ct_f_looks_of), sl_f_looks_of⟩)
    (c_f_looks_of : PySem.W.codeIn K cd_f_looks_of "looks_of" = true)
    (k_f_looks_of : PySem.W.keepIn K (.ref x_f_looks_of) = true)
    (a_f_road_to : PySem.W.nsIn K mainGlobals "road_to" = some (some (.ref x_f_road_to)))
    (l_f_road_to : K.lookup x_f_road_to = some ⟨oc_f_road_to, od_f_road_to, .func (PySem.W.fnOf "road_to" "road_to" (defArgs s_f_road_to) (defBody s_f_road_to) (defScope s_f_road_to) .none kV_f_road_to dc_f_road_to pm_f_road_to an_f_road_to cd_f_road_to ct_f_road_to), sl_f_road_to⟩)
    (c_f_road_to : PySem.W.codeIn K cd_f_road_to "road_to" = true)
    (k_f_road_to : PySem.W.keepIn K (.ref x_f_road_to) = true)
    (a_f_steps_from : PySem.W.nsIn K mainGlobals "steps_from" = some (some (.ref x_f_steps_from)))
    (l_f_steps_from : K.lookup x_f_steps_from = some ⟨oc_f_steps_from, od_f_steps_from, .func (PySem.W.fnOf "steps_from" "steps_from" (defArgs s_f_steps_from) (defBody s_f_steps_from) (defScope s_f_steps_from) .none kV_f_steps_from dc_f_steps_from pm_f_steps_from an_f_steps_from cd_f_steps_from ct_f_steps_from), sl_f_steps_from⟩)
    (c_f_steps_from : PySem.W.codeIn K cd_f_steps_from "steps_from" = true)
    (k_f_steps_from : PySem.W.keepIn K (.ref x_f_steps_from) = true)
    (a_f_apart : PySem.W.nsIn K mainGlobals "apart" = some (some (.ref x_f_apart)))
    (l_f_apart : K.lookup x_f_apart = some ⟨oc_f_apart, od_f_apart, .func (PySem.W.fnOf "apart" "apart" (defArgs s_f_apart) (defBody s_f_apart) (defScope s_f_apart) .none kV_f_apart dc_f_apart pm_f_apart an_f_apart cd_f_apart ct_f_apart), sl_f_apart⟩)
    (c_f_apart : PySem.W.codeIn K cd_f_apart "apart" = true)
    (k_f_apart : PySem.W.keepIn K (.ref x_f_apart) = true)
    (a_f_law : PySem.W.nsIn K mainGlobals "law" = some (some (.ref x_f_law)))
    (l_f_law : K.lookup x_f_law = some ⟨oc_f_law, od_f_law, .func (PySem.W.fnOf "law" "law" (defArgs s_f_law) (defBody s_f_law) (defScope s_f_law) .none kV_f_law dc_f_law pm_f_law an_f_law cd_f_law ct_f_law), sl_f_law⟩)
    (c_f_law : PySem.W.codeIn K cd_f_law "law" = true)
    (k_f_law : PySem.W.keepIn K (.ref x_f_law) = true)
    (pgHouse : PySem.W.plainGet K CHouse Str.empty = true)
    (hdHouse : PySem.W.hasDictIn K CHouse = true)
    (poHouse : PySem.W.plainOver K CHouse = true)
    (saHouse : PySem.W.findIn K (.ref CHouse) "__setattr__" = some (some (.builtin "object.__setattr__")))
    (mkHouse : PySem.W.makesIn K CHouse = true)
    (kcHouse : PySem.W.keepIn K (.ref CHouse) = true)
    (n_House_room : PySem.W.findIn K (.ref CHouse) "room" = some none)
    (n_House_slots : PySem.W.findIn K (.ref CHouse) "slots" = some none)
    (n_House_last_name : PySem.W.findIn K (.ref CHouse) "last_name" = some none)
    (n_House_kinds : PySem.W.findIn K (.ref CHouse) "kinds" = some none)
    (n_House_fields : PySem.W.findIn K (.ref CHouse) "fields" = some none)
    (n_House_queues : PySem.W.findIn K (.ref CHouse) "queues" = some none)
    (n_House_told : PySem.W.findIn K (.ref CHouse) "told" = some none)
    (z_len : PySem.W.nsIn K mainGlobals "len" = some none)
    (z_sorted : PySem.W.nsIn K mainGlobals "sorted" = some none)
    (z_range : PySem.W.nsIn K mainGlobals "range" = some none)
    (z_list : PySem.W.nsIn K mainGlobals "list" = some none)
    (z_isinstance : PySem.W.nsIn K mainGlobals "isinstance" = some none)
    (z_int : PySem.W.nsIn K mainGlobals "int" = some none)
    (z_bool : PySem.W.nsIn K mainGlobals "bool" = some none)
    (z_tuple : PySem.W.nsIn K mainGlobals "tuple" = some none)
    (z_str : PySem.W.nsIn K mainGlobals "str" = some none)
    (z_enumerate : PySem.W.nsIn K mainGlobals "enumerate" = some none)
    (z_zip : PySem.W.nsIn K mainGlobals "zip" = some none)
    (z_dict : PySem.W.nsIn K mainGlobals "dict" = some none)
    (z_reversed : PySem.W.nsIn K mainGlobals "reversed" = some none)
    (xg : PySem.W.nsIn K mainGlobals "GUARDS" = some (some (.int 4 tg)))
    (xf : PySem.W.nsIn K mainGlobals "FIXED_SIZES" = some (some (.ref aF)))
    (lf : K.lookup aF = some ⟨.type "dict", none, .dict #[⟨hs1, .str "weak" tw1, .int 1 tw2⟩, ⟨hs2, .str "pair" tw3, .int 2 tw4⟩] ep0, #[]⟩)
    (h_1 : hs1 = hashStr w "weak")
    (h_2 : hs2 = hashStr w "pair")
    (h_3 : (aF == sysModules) = false)
    : ∃ fd : FuncData, (∀ (s : Shared) (v : Value), BindsTo s fd ⟨[v], []⟩ [("script", v)]) ∧ ∀ base : Heap, K.In base → base.Ns mainGlobals mg → FnOk l.prog w K mg base CX0 7 fa fd ["script"] (spLaw K) := by
  have e := hfa.symm.trans (PySem.W.mg_of X G a_f_law)
  cases e
  have F_f_law_cell_at := fun_mk (st := s_f_law_cell_at) l_f_law_cell_at c_f_law_cell_at k_f_law_cell_at
  have b0_f_law_cell_at : Binds K _ ["script", "k"] [] := F_f_law_cell_at.binds (ps := ["script", "k"]) fun _ _ _ _ _ _ us hl => match us, hl with | [_, _], _ => rfl
  have F_f_law_mid := fun_mk (st := s_f_law_mid) l_f_law_mid c_f_law_mid k_f_law_mid
  have b0_f_law_mid : Binds K _ ["script"] [] := F_f_law_mid.binds (ps := ["script"]) fun _ _ _ _ _ _ us hl => match us, hl with | [_], _ => rfl
  have F_f_law_draw := fun_mk (st := s_f_law_draw) l_f_law_draw c_f_law_draw k_f_law_draw
  have b0_f_law_draw : Binds K _ ["script", "k"] [] := F_f_law_draw.binds (ps := ["script", "k"]) fun _ _ _ _ _ _ us hl => match us, hl with | [_, _], _ => rfl
  have F_f_law_twin := fun_mk (st := s_f_law_twin) l_f_law_twin c_f_law_twin k_f_law_twin
  have b0_f_law_twin : Binds K _ ["script", "many"] [] := F_f_law_twin.binds (ps := ["script", "many"]) fun _ _ _ _ _ _ us hl => match us, hl with | [_, _], _ => rfl
  have F_f_law_number := fun_mk (st := s_f_law_number) l_f_law_number c_f_law_number k_f_law_number
  have b0_f_law_number : Binds K _ ["script", "k"] [] := F_f_law_number.binds (ps := ["script", "k"]) fun _ _ _ _ _ _ us hl => match us, hl with | [_, _], _ => rfl
  have F_f_law_thing := fun_mk (st := s_f_law_thing) l_f_law_thing c_f_law_thing k_f_law_thing
  have b0_f_law_thing : Binds K _ ["script", "k", "many"] [] := F_f_law_thing.binds (ps := ["script", "k", "many"]) fun _ _ _ _ _ _ us hl => match us, hl with | [_, _, _], _ => rfl
  have F_f_law_graph := fun_mk (st := s_f_law_graph) l_f_law_graph c_f_law_graph k_f_law_graph
  have b0_f_law_graph : Binds K _ ["script", "many"] [] := F_f_law_graph.binds (ps := ["script", "many"]) fun _ _ _ _ _ _ us hl => match us, hl with | [_, _], _ => rfl
  have F_f_law_either := fun_mk (st := s_f_law_either) l_f_law_either c_f_law_either k_f_law_either
  have b0_f_law_either : Binds K _ ["script", "many"] [] := F_f_law_either.binds (ps := ["script", "many"]) fun _ _ _ _ _ _ us hl => match us, hl with | [_, _], _ => rfl
  have F_m_House_init := funD_mk (st := s_m_House_init) l_m_House_init c_m_House_init k_m_House_init t_m_House_init rfl
  have b0_m_House_init : Binds K _ ["self", "room", "slots"] [] := F_m_House_init.binds fun _ _ _ _ _ _ _ us hl => by
    have hl' : us.length = 3 := by simp at hl; omega
    match us, hl' with | [_, _, _], _ => exact ⟨_, rfl, rfl⟩
  have b1_m_House_init : Binds K _ ["self", "room", "slots"] [.int 4 t_m_House_init_0] := F_m_House_init.binds fun _ _ _ _ _ _ _ us hl => by
    have hl' : us.length = 2 := by simp at hl; omega
    match us, hl' with | [_, _], _ => exact ⟨_, rfl, rfl⟩
  have F_m_House_check_slot := fun_mk (st := s_m_House_check_slot) l_m_House_check_slot c_m_House_check_slot k_m_House_check_slot
  have b0_m_House_check_slot : Binds K _ ["self", "slot"] [] := F_m_House_check_slot.binds (ps := ["self", "slot"]) fun _ _ _ _ _ _ us hl => match us, hl with | [_, _], _ => rfl
  have F_m_House_has_room := fun_mk (st := s_m_House_has_room) l_m_House_has_room c_m_House_has_room k_m_House_has_room
  have b0_m_House_has_room : Binds K _ ["self", "count"] [] := F_m_House_has_room.binds (ps := ["self", "count"]) fun _ _ _ _ _ _ us hl => match us, hl with | [_, _], _ => rfl
  have F_m_House_make_room := funD_mk (st := s_m_House_make_room) l_m_House_make_room c_m_House_make_room k_m_House_make_room t_m_House_make_room rfl
  have b0_m_House_make_room : Binds K _ ["self", "count", "besides"] [] := F_m_House_make_room.binds fun _ _ _ _ _ _ _ us hl => by
    have hl' : us.length = 3 := by simp at hl; omega
    match us, hl' with | [_, _, _], _ => exact ⟨_, rfl, rfl⟩
  have b1_m_House_make_room : Binds K _ ["self", "count", "besides"] [.none] := F_m_House_make_room.binds fun _ _ _ _ _ _ _ us hl => by
    have hl' : us.length = 2 := by simp at hl; omega
    match us, hl' with | [_, _], _ => exact ⟨_, rfl, rfl⟩
  have F_f_box_name := fun_mk (st := s_f_box_name) l_f_box_name c_f_box_name k_f_box_name
  have b0_f_box_name : Binds K _ ["thing"] [] := F_f_box_name.binds (ps := ["thing"]) fun _ _ _ _ _ _ us hl => match us, hl with | [_], _ => rfl
  have F_f_box_thing := fun_mk (st := s_f_box_thing) l_f_box_thing c_f_box_thing k_f_box_thing
  have b0_f_box_thing : Binds K _ ["name"] [] := F_f_box_thing.binds (ps := ["name"]) fun _ _ _ _ _ _ us hl => match us, hl with | [_], _ => rfl
  have F_f_renamed := fun_mk (st := s_f_renamed) l_f_renamed c_f_renamed k_f_renamed
  have b0_f_renamed : Binds K _ ["thing", "new_names"] [] := F_f_renamed.binds (ps := ["thing", "new_names"]) fun _ _ _ _ _ _ us hl => match us, hl with | [_, _], _ => rfl
  have F_m_House_build := fun_mk (st := s_m_House_build) l_m_House_build c_m_House_build k_m_House_build
  have b0_m_House_build : Binds K _ ["self", "draft", "slot"] [] := F_m_House_build.binds (ps := ["self", "draft", "slot"]) fun _ _ _ _ _ _ us hl => match us, hl with | [_, _, _], _ => rfl
  have F_m_House_make := funD_mk (st := s_m_House_make) l_m_House_make c_m_House_make k_m_House_make t_m_House_make rfl
  have b0_m_House_make : Binds K _ ["self", "kind", "size", "slot"] [] := F_m_House_make.binds fun _ _ _ _ _ _ _ us hl => by
    have hl' : us.length = 4 := by simp at hl; omega
    match us, hl' with | [_, _, _, _], _ => exact ⟨_, rfl, rfl⟩
  have b1_m_House_make : Binds K _ ["self", "kind", "size", "slot"] [.int 0 t_m_House_make_1] := F_m_House_make.binds fun _ _ _ _ _ _ _ us hl => by
    have hl' : us.length = 3 := by simp at hl; omega
    match us, hl' with | [_, _, _], _ => exact ⟨_, rfl, rfl⟩
  have b2_m_House_make : Binds K _ ["self", "kind", "size", "slot"] [.int 0 t_m_House_make_0, .int 0 t_m_House_make_1] := F_m_House_make.binds fun _ _ _ _ _ _ _ us hl => by
    have hl' : us.length = 2 := by simp at hl; omega
    match us, hl' with | [_, _], _ => exact ⟨_, rfl, rfl⟩
  have F_m_House_check_box := fun_mk (st := s_m_House_check_box) l_m_House_check_box c_m_House_check_box k_m_House_check_box
  have b0_m_House_check_box : Binds K _ ["self", "name"] [] := F_m_House_check_box.binds (ps := ["self", "name"]) fun _ _ _ _ _ _ us hl => match us, hl with | [_, _], _ => rfl
  have F_m_House_check_thing := fun_mk (st := s_m_House_check_thing) l_m_House_check_thing c_m_House_check_thing k_m_House_check_thing
  have b0_m_House_check_thing : Binds K _ ["self", "thing"] [] := F_m_House_check_thing.binds (ps := ["self", "thing"]) fun _ _ _ _ _ _ us hl => match us, hl with | [_, _], _ => rfl
  have F_m_House_check_field := fun_mk (st := s_m_House_check_field) l_m_House_check_field c_m_House_check_field k_m_House_check_field
  have b0_m_House_check_field : Binds K _ ["self", "name", "at"] [] := F_m_House_check_field.binds (ps := ["self", "name", "at"]) fun _ _ _ _ _ _ us hl => match us, hl with | [_, _, _], _ => rfl
  have F_m_House_put := fun_mk (st := s_m_House_put) l_m_House_put c_m_House_put k_m_House_put
  have b0_m_House_put : Binds K _ ["self", "name", "at", "thing"] [] := F_m_House_put.binds (ps := ["self", "name", "at", "thing"]) fun _ _ _ _ _ _ us hl => match us, hl with | [_, _, _, _], _ => rfl
  have F_m_House_hold := fun_mk (st := s_m_House_hold) l_m_House_hold c_m_House_hold k_m_House_hold
  have b0_m_House_hold : Binds K _ ["self", "slot", "thing"] [] := F_m_House_hold.binds (ps := ["self", "slot", "thing"]) fun _ _ _ _ _ _ us hl => match us, hl with | [_, _, _], _ => rfl
  have F_f_law_house := fun_mk (st := s_f_law_house) l_f_law_house c_f_law_house k_f_law_house
  have b0_f_law_house : Binds K _ ["kinds", "rows", "slots", "extra"] [] := F_f_law_house.binds (ps := ["kinds", "rows", "slots", "extra"]) fun _ _ _ _ _ _ us hl => match us, hl with | [_, _, _, _], _ => rfl
  have F_f_law_look := fun_mk (st := s_f_law_look) l_f_law_look c_f_law_look k_f_law_look
  have b0_f_law_look : Binds K _ ["kinds", "rows", "name"] [] := F_f_law_look.binds (ps := ["kinds", "rows", "name"]) fun _ _ _ _ _ _ us hl => match us, hl with | [_, _, _], _ => rfl
  have F_f_law_close := fun_mk (st := s_f_law_close) l_f_law_close c_f_law_close k_f_law_close
  have b0_f_law_close : Binds K _ ["kinds", "rows", "one", "other"] [] := F_f_law_close.binds (ps := ["kinds", "rows", "one", "other"]) fun _ _ _ _ _ _ us hl => match us, hl with | [_, _, _, _], _ => rfl
  have F_f_law_whole := fun_mk (st := s_f_law_whole) l_f_law_whole c_f_law_whole k_f_law_whole
  have b0_f_law_whole : Binds K _ ["found"] [] := F_f_law_whole.binds (ps := ["found"]) fun _ _ _ _ _ _ us hl => match us, hl with | [_], _ => rfl
  have F_f_law_road := fun_mk (st := s_f_law_road) l_f_law_road c_f_law_road k_f_law_road
  have b0_f_law_road : Binds K _ ["kinds", "rows", "one", "other", "road"] [] := F_f_law_road.binds (ps := ["kinds", "rows", "one", "other", "road"]) fun _ _ _ _ _ _ us hl => match us, hl with | [_, _, _, _, _], _ => rfl
  have F_f_law_held_good := fun_mk (st := s_f_law_held_good) l_f_law_held_good c_f_law_held_good k_f_law_held_good
  have b0_f_law_held_good : Binds K _ ["kinds", "rows", "one", "two", "road"] [] := F_f_law_held_good.binds (ps := ["kinds", "rows", "one", "two", "road"]) fun _ _ _ _ _ _ us hl => match us, hl with | [_, _, _, _, _], _ => rfl
  have F_m_House_names := fun_mk (st := s_m_House_names) l_m_House_names c_m_House_names k_m_House_names
  have b0_m_House_names : Binds K _ ["self"] [] := F_m_House_names.binds (ps := ["self"]) fun _ _ _ _ _ _ us hl => match us, hl with | [_], _ => rfl
  have F_m_House_size := fun_mk (st := s_m_House_size) l_m_House_size c_m_House_size k_m_House_size
  have b0_m_House_size : Binds K _ ["self", "name"] [] := F_m_House_size.binds (ps := ["self", "name"]) fun _ _ _ _ _ _ us hl => match us, hl with | [_, _], _ => rfl
  have F_m_House_field := fun_mk (st := s_m_House_field) l_m_House_field c_m_House_field k_m_House_field
  have b0_m_House_field : Binds K _ ["self", "name", "at"] [] := F_m_House_field.binds (ps := ["self", "name", "at"]) fun _ _ _ _ _ _ us hl => match us, hl with | [_, _, _], _ => rfl
  have F_f_things_in := fun_mk (st := s_f_things_in) l_f_things_in c_f_things_in k_f_things_in
  have b0_f_things_in : Binds K _ ["house", "name"] [] := F_f_things_in.binds (ps := ["house", "name"]) fun _ _ _ _ _ _ us hl => match us, hl with | [_, _], _ => rfl
  have F_m_House_kind := fun_mk (st := s_m_House_kind) l_m_House_kind c_m_House_kind k_m_House_kind
  have b0_m_House_kind : Binds K _ ["self", "name"] [] := F_m_House_kind.binds (ps := ["self", "name"]) fun _ _ _ _ _ _ us hl => match us, hl with | [_, _], _ => rfl
  have F_f_row_of := fun_mk (st := s_f_row_of) l_f_row_of c_f_row_of k_f_row_of
  have b0_f_row_of : Binds K _ ["house", "name", "new_names"] [] := F_f_row_of.binds (ps := ["house", "name", "new_names"]) fun _ _ _ _ _ _ us hl => match us, hl with | [_, _, _], _ => rfl
  have F_f_looks_of := fun_mk (st := s_f_looks_of) l_f_looks_of c_f_looks_of k_f_looks_of
  have b0_f_looks_of : Binds K _ ["house"] [] := F_f_looks_of.binds (ps := ["house"]) fun _ _ _ _ _ _ us hl => match us, hl with | [_], _ => rfl
  have F_f_road_to := fun_mk (st := s_f_road_to) l_f_road_to c_f_road_to k_f_road_to
  have b0_f_road_to : Binds K _ ["pair", "reached"] [] := F_f_road_to.binds (ps := ["pair", "reached"]) fun _ _ _ _ _ _ us hl => match us, hl with | [_, _], _ => rfl
  have F_f_steps_from := fun_mk (st := s_f_steps_from) l_f_steps_from c_f_steps_from k_f_steps_from
  have b0_f_steps_from : Binds K _ ["house", "pair"] [] := F_f_steps_from.binds (ps := ["house", "pair"]) fun _ _ _ _ _ _ us hl => match us, hl with | [_, _], _ => rfl
  have F_f_apart := fun_mk (st := s_f_apart) l_f_apart c_f_apart k_f_apart
  have b0_f_apart : Binds K _ ["house", "name", "other"] [] := F_f_apart.binds (ps := ["house", "name", "other"]) fun _ _ _ _ _ _ us hl => match us, hl with | [_, _, _], _ => rfl
  have F_f_law := fun_mk (st := s_f_law) l_f_law c_f_law k_f_law
  have HT : HTxt K mg CHouse := ⟨⟨pgHouse, hdHouse, poHouse, saHouse⟩, n_House_room, n_House_slots, n_House_last_name, n_House_kinds, n_House_fields, n_House_queues, n_House_told, PySem.W.mg_of X G aCHouse, PySem.W.mg_none_of X G z_len, PySem.W.mg_none_of X G z_sorted, PySem.W.mg_none_of X G z_range, PySem.W.mg_none_of X G z_list, PySem.W.mg_none_of X G z_isinstance, ⟨_, PySem.W.mg_of X G xg⟩⟩
  have T : TX K mg CHouse := { HT with g_int := PySem.W.mg_none_of X G z_int, g_bool := PySem.W.mg_none_of X G z_bool, g_tuple := PySem.W.mg_none_of X G z_tuple, g_str := PySem.W.mg_none_of X G z_str, g_enumerate := PySem.W.mg_none_of X G z_enumerate, s_ib := (by rfl), s_it := (by rfl) }
  have one : ∀ {α : Type} {p : α → Prop} {x : α}, p x → ∀ y ∈ [x], p y := fun h y hy => by rw [List.mem_singleton.mp hy]; exact h
  have two : ∀ {α : Type} {p : α → Prop} {x z : α}, p x → p z → ∀ y ∈ [x, z], p y := fun h h2 y hy => by rcases List.mem_cons.mp hy with e | e; (rw [e]; exact h); (rw [List.mem_singleton.mp e]; exact h2)
  have three : ∀ {α : Type} {p : α → Prop} {x z t : α}, p x → p z → p t → ∀ y ∈ [x, z, t], p y := fun h h2 h3 y hy => by rcases List.mem_cons.mp hy with e | e; (rw [e]; exact h); (exact two h2 h3 y e)
  refine ⟨PySem.W.fnOf "law" "law" (defArgs s_f_law) (defBody s_f_law) (defScope s_f_law) .none kV_f_law dc_f_law pm_f_law an_f_law cd_f_law ct_f_law, fun s v => .of_eq rfl, fun base _ _ => ?_⟩
  have KD : KDict l.prog w K aF fixed := kdict2 lf h_1 h_2 (by decide +kernel) h_3
  have D_law_cell_at : DefOk l.prog w K mg base 1 "_law_cell_at" _ _ [[]] := ⟨_, _, PySem.W.mg_of X G a_f_law_cell_at, k_f_law_cell_at, ok_f_law_cell_at (n := 0) F_f_law_cell_at T , one b0_f_law_cell_at⟩
  have D_law_mid : DefOk l.prog w K mg base 2 "_law_mid" _ _ [[]] := ⟨_, _, PySem.W.mg_of X G a_f_law_mid, k_f_law_mid, ok_f_law_mid (n := 1) F_f_law_mid T (D_law_cell_at.mono (by decide)), one b0_f_law_mid⟩
  have D_law_draw : DefOk l.prog w K mg base 2 "_law_draw" _ _ [[]] := ⟨_, _, PySem.W.mg_of X G a_f_law_draw, k_f_law_draw, ok_f_law_draw (n := 1) F_f_law_draw T (D_law_cell_at.mono (by decide)), one b0_f_law_draw⟩
  have D_law_twin : DefOk l.prog w K mg base 3 "_law_twin" _ _ [[]] := ⟨_, _, PySem.W.mg_of X G a_f_law_twin, k_f_law_twin, ok_f_law_twin (n := 2) F_f_law_twin T (D_law_draw.mono (by decide)), one b0_f_law_twin⟩
  have D_law_number : DefOk l.prog w K mg base 3 "_law_number" _ _ [[]] := ⟨_, _, PySem.W.mg_of X G a_f_law_number, k_f_law_number, ok_f_law_number (n := 2) F_f_law_number T (D_law_draw.mono (by decide)) (D_law_cell_at.mono (by decide)), one b0_f_law_number⟩
  have D_law_thing : DefOk l.prog w K mg base 4 "_law_thing" _ _ [[]] := ⟨_, _, PySem.W.mg_of X G a_f_law_thing, k_f_law_thing, ok_f_law_thing (n := 3) F_f_law_thing T (D_law_draw.mono (by decide)) (D_law_number.mono (by decide)), one b0_f_law_thing⟩
  have D_law_graph : DefOk l.prog w K mg base 5 "_law_graph" _ _ [[]] := ⟨_, _, PySem.W.mg_of X G a_f_law_graph, k_f_law_graph, ok_f_law_graph (n := 4) F_f_law_graph T (D_law_draw.mono (by decide)) (D_law_thing.mono (by decide)), one b0_f_law_graph⟩
  have D_law_either : DefOk l.prog w K mg base 6 "_law_either" _ _ [[]] := ⟨_, _, PySem.W.mg_of X G a_f_law_either, k_f_law_either, ok_f_law_either (n := 5) F_f_law_either T (D_law_draw.mono (by decide)) (D_law_twin.mono (by decide)) (D_law_graph.mono (by decide)), one b0_f_law_either⟩
  have D_House : MakeOk l.prog w K mg base CHouse 2 _ _ [[], [.int 4 t_m_House_init_0]] := ⟨_, _, 1, by decide, ⟨mkHouse, a_m_House_init, i_m_House_init, kcHouse⟩, ok_m_House_init (n := 0) F_m_House_init T , two b0_m_House_init b1_m_House_init⟩
  have M_check_slot : MethOk l.prog w K mg base CHouse 1 "check_slot" _ _ [[]] := ⟨_, _, ⟨a_m_House_check_slot, i_m_House_check_slot, k_m_House_check_slot⟩, ok_m_House_check_slot (n := 0) F_m_House_check_slot T , one b0_m_House_check_slot⟩
  have M_has_room : MethOk l.prog w K mg base CHouse 1 "has_room" _ _ [[]] := ⟨_, _, ⟨a_m_House_has_room, i_m_House_has_room, k_m_House_has_room⟩, ok_m_House_has_room (n := 0) F_m_House_has_room T , one b0_m_House_has_room⟩
  have M_make_room : MethOk l.prog w K mg base CHouse 2 "make_room" _ _ [[], [.none]] := ⟨_, _, ⟨a_m_House_make_room, i_m_House_make_room, k_m_House_make_room⟩, ok_m_House_make_room (n := 1) F_m_House_make_room T (M_has_room.mono (by decide)), two b0_m_House_make_room b1_m_House_make_room⟩
  have D_box_name : DefOk l.prog w K mg base 1 "box_name" _ _ [[]] := ⟨_, _, PySem.W.mg_of X G a_f_box_name, k_f_box_name, ok_f_box_name (n := 0) F_f_box_name T , one b0_f_box_name⟩
  have D_box_thing : DefOk l.prog w K mg base 1 "box_thing" _ _ [[]] := ⟨_, _, PySem.W.mg_of X G a_f_box_thing, k_f_box_thing, ok_f_box_thing (n := 0) F_f_box_thing T , one b0_f_box_thing⟩
  have D_renamed : DefOk l.prog w K mg base 2 "renamed" _ _ [[]] := ⟨_, _, PySem.W.mg_of X G a_f_renamed, k_f_renamed, ok_f_renamed (n := 1) F_f_renamed T (D_box_name.mono (by decide)) (D_box_thing.mono (by decide)), one b0_f_renamed⟩
  have M_build : MethOk l.prog w K mg base CHouse 3 "build" _ _ [[]] := ⟨_, _, ⟨a_m_House_build, i_m_House_build, k_m_House_build⟩, ok_m_House_build (n := 2) F_m_House_build T (PySem.W.mg_none_of X G z_zip) (M_has_room.mono (by decide)) (D_renamed.mono (by decide)) (D_box_thing.mono (by decide)), one b0_m_House_build⟩
  have M_make : MethOk l.prog w K mg base CHouse 4 "make" _ _ [[], [.int 0 t_m_House_make_0, .int 0 t_m_House_make_1], [.int 0 t_m_House_make_1]] := ⟨_, _, ⟨a_m_House_make, i_m_House_make, k_m_House_make⟩, ok_m_House_make (n := 3) F_m_House_make T (PySem.W.mg_of X G xf) KD (M_check_slot.mono (by decide)) (M_make_room.mono (by decide)) (M_build.mono (by decide)), three b0_m_House_make b2_m_House_make b1_m_House_make⟩
  have M_check_box : MethOk l.prog w K mg base CHouse 1 "check_box" _ _ [[]] := ⟨_, _, ⟨a_m_House_check_box, i_m_House_check_box, k_m_House_check_box⟩, ok_m_House_check_box (n := 0) F_m_House_check_box T , one b0_m_House_check_box⟩
  have M_check_thing : MethOk l.prog w K mg base CHouse 2 "check_thing" _ _ [[]] := ⟨_, _, ⟨a_m_House_check_thing, i_m_House_check_thing, k_m_House_check_thing⟩, ok_m_House_check_thing (n := 1) F_m_House_check_thing T (D_box_name.mono (by decide)) (M_check_box.mono (by decide)), one b0_m_House_check_thing⟩
  have M_check_field : MethOk l.prog w K mg base CHouse 1 "check_field" _ _ [[]] := ⟨_, _, ⟨a_m_House_check_field, i_m_House_check_field, k_m_House_check_field⟩, ok_m_House_check_field (n := 0) F_m_House_check_field T , one b0_m_House_check_field⟩
  have M_put : MethOk l.prog w K mg base CHouse 3 "put" _ _ [[]] := ⟨_, _, ⟨a_m_House_put, i_m_House_put, k_m_House_put⟩, ok_m_House_put (n := 2) F_m_House_put T (M_check_box.mono (by decide)) (M_check_thing.mono (by decide)) (M_check_field.mono (by decide)), one b0_m_House_put⟩
  have M_hold : MethOk l.prog w K mg base CHouse 3 "hold" _ _ [[]] := ⟨_, _, ⟨a_m_House_hold, i_m_House_hold, k_m_House_hold⟩, ok_m_House_hold (n := 2) F_m_House_hold T (M_check_slot.mono (by decide)) (M_check_thing.mono (by decide)), one b0_m_House_hold⟩
  have D_law_house : DefOk l.prog w K mg base 5 "_law_house" _ _ [[]] := ⟨_, _, PySem.W.mg_of X G a_f_law_house, k_f_law_house, ok_f_law_house (n := 4) F_f_law_house T (D_House.mono (by decide)) (M_make.mono (by decide)) (M_put.mono (by decide)) (M_hold.mono (by decide)), one b0_f_law_house⟩
  have D_law_look : DefOk l.prog w K mg base 1 "_law_look" _ _ [[]] := ⟨_, _, PySem.W.mg_of X G a_f_law_look, k_f_law_look, ok_f_law_look (n := 0) F_f_law_look T , one b0_f_law_look⟩
  have D_law_close : DefOk l.prog w K mg base 2 "_law_close" _ _ [[]] := ⟨_, _, PySem.W.mg_of X G a_f_law_close, k_f_law_close, ok_f_law_close (n := 1) F_f_law_close T (D_law_look.mono (by decide)), one b0_f_law_close⟩
  have D_law_whole : DefOk l.prog w K mg base 1 "_law_whole" _ _ [[]] := ⟨_, _, PySem.W.mg_of X G a_f_law_whole, k_f_law_whole, ok_f_law_whole (n := 0) F_f_law_whole T , one b0_f_law_whole⟩
  have D_law_road : DefOk l.prog w K mg base 2 "_law_road" _ _ [[]] := ⟨_, _, PySem.W.mg_of X G a_f_law_road, k_f_law_road, ok_f_law_road (n := 1) F_f_law_road T (D_law_look.mono (by decide)) (D_law_whole.mono (by decide)), one b0_f_law_road⟩
  have D_law_held_good : DefOk l.prog w K mg base 3 "_law_held_good" _ _ [[]] := ⟨_, _, PySem.W.mg_of X G a_f_law_held_good, k_f_law_held_good, ok_f_law_held_good (n := 2) F_f_law_held_good T (D_law_close.mono (by decide)) (D_law_road.mono (by decide)) (D_law_look.mono (by decide)), one b0_f_law_held_good⟩
  have M_names : MethOk l.prog w K mg base CHouse 1 "names" _ _ [[]] := ⟨_, _, ⟨a_m_House_names, i_m_House_names, k_m_House_names⟩, ok_m_House_names (n := 0) F_m_House_names T , one b0_m_House_names⟩
  have M_size : MethOk l.prog w K mg base CHouse 2 "size" _ _ [[]] := ⟨_, _, ⟨a_m_House_size, i_m_House_size, k_m_House_size⟩, ok_m_House_size (n := 1) F_m_House_size T (M_check_box.mono (by decide)), one b0_m_House_size⟩
  have M_field : MethOk l.prog w K mg base CHouse 2 "field" _ _ [[]] := ⟨_, _, ⟨a_m_House_field, i_m_House_field, k_m_House_field⟩, ok_m_House_field (n := 1) F_m_House_field T (M_check_box.mono (by decide)) (M_check_field.mono (by decide)), one b0_m_House_field⟩
  have D_things_in : DefOk l.prog w K mg base 3 "things_in" _ _ [[]] := ⟨_, _, PySem.W.mg_of X G a_f_things_in, k_f_things_in, ok_f_things_in (n := 2) F_f_things_in T (M_size.mono (by decide)) (M_field.mono (by decide)), one b0_f_things_in⟩
  have D_renamed_d : DefOk l.prog w K mg base 2 "renamed" _ _ [[]] := ⟨_, _, PySem.W.mg_of X G a_f_renamed, k_f_renamed, ok_f_renamed_d (n := 1) F_f_renamed T (D_box_name.mono (by decide)) (D_box_thing.mono (by decide)), one b0_f_renamed⟩
  have M_kind : MethOk l.prog w K mg base CHouse 2 "kind" _ _ [[]] := ⟨_, _, ⟨a_m_House_kind, i_m_House_kind, k_m_House_kind⟩, ok_m_House_kind (n := 1) F_m_House_kind T (M_check_box.mono (by decide)), one b0_m_House_kind⟩
  have D_row_of : DefOk l.prog w K mg base 4 "row_of" _ _ [[]] := ⟨_, _, PySem.W.mg_of X G a_f_row_of, k_f_row_of, ok_f_row_of (n := 3) F_f_row_of T (D_things_in.mono (by decide)) (D_renamed_d.mono (by decide)) (M_kind.mono (by decide)), one b0_f_row_of⟩
  have D_looks_of : DefOk l.prog w K mg base 5 "looks_of" _ _ [[]] := ⟨_, _, PySem.W.mg_of X G a_f_looks_of, k_f_looks_of, ok_f_looks_of (n := 4) F_f_looks_of T (PySem.W.mg_none_of X G z_dict) (M_names.mono (by decide)) (D_row_of.mono (by decide)), one b0_f_looks_of⟩
  have D_road_to : DefOk l.prog w K mg base 1 "road_to" _ _ [[]] := ⟨_, _, PySem.W.mg_of X G a_f_road_to, k_f_road_to, ok_f_road_to (n := 0) F_f_road_to T (PySem.W.mg_none_of X G z_reversed) , one b0_f_road_to⟩
  have D_steps_from : DefOk l.prog w K mg base 3 "steps_from" _ _ [[]] := ⟨_, _, PySem.W.mg_of X G a_f_steps_from, k_f_steps_from, ok_f_steps_from (n := 2) F_f_steps_from T (M_size.mono (by decide)) (D_box_name.mono (by decide)) (M_field.mono (by decide)), one b0_f_steps_from⟩
  have D_apart : DefOk l.prog w K mg base 6 "apart" _ _ [[]] := ⟨_, _, PySem.W.mg_of X G a_f_apart, k_f_apart, ok_f_apart (n := 5) F_f_apart T (M_check_box.mono (by decide)) (D_looks_of.mono (by decide)) (D_road_to.mono (by decide)) (D_steps_from.mono (by decide)), one b0_f_apart⟩
  exact ok_f_law (n := 6) F_f_law T (D_law_mid.mono (by decide)) (D_law_either.mono (by decide)) (D_law_house.mono (by decide)) (D_law_draw.mono (by decide)) (D_law_held_good.mono (by decide)) (D_apart.mono (by decide)) (D_law_thing.mono (by decide)) (M_put.mono (by decide))
theorem walk {l : PySem.W.OpenLaw} {q : Program} {loose : List Str} {XP : (Str → Option Value) → Heap → Prop} {YP : World → Heap → Prop} {d : DefRec} {K : Params → PySem.W.Frag} (hn : l.most = some 63) (hdf : d.params.defaults = [])
    (hY : ∀ (w : World) (h : Heap), YP w h → (K w.params).In h)
    (F : ∀ (w : World) (mg : Str → Option Value) (fa : Addr) (h : Heap), (K w.params).In h → h.Ns mainGlobals mg → mg d.name = some (.ref fa) →
      ∃ fd : FuncData, (∀ (s : Shared) (u : Value), BindsTo s fd ⟨[u], []⟩ [("script", u)]) ∧ ∀ base : Heap, (K w.params).In base → base.Ns mainGlobals mg → FnOk l.prog w (K w.params) mg base CX0 7 fa fd ["script"] (spLaw (K w.params))) :
    PySem.W.WalkO q loose XP YP l.row.toRowW d [] (fun f vs => PySem.call f vs) :=
  L2.walk_of (n := 63) (k := 7) (x := "script") (CX := fun _ => CX0) (sp := fun w => spLaw (K w.params)) hn (by decide) hdf ⟨rfl, by decide, by decide⟩ hY F (fun _ _ a ns hl hO hS => ⟨a, ns, rfl, Scr.of hO hS, hl, fun _ => rfl⟩) fun _ _ _ _ _ z => z
end LW
open PySem PySem.W PyProof.Rows
set_option maxRecDepth 100000 in
set_option maxHeartbeats 0 in
theorem PySem.Challenge.cw_lastword_k17_whole_parted_or_not_holds : PySem.Challenge.rw_lastword_k17_whole_parted_or_not.Holds := by
  w_on; o_law; k_head; (case hw => w_witness2)
  k_fill
  refine LW.walk (l := PySem.Challenge.rw_lastword_k17_whole_parted_or_not) rfl rfl (fun w h Y => PySem.W.kIn_of Y) ?F
  case F =>
    intro w mg fa h KX G hmg
    refine' LW.all_mk KX G hmg ?aCHouse ?a_f_law_cell_at ?l_f_law_cell_at ?c_f_law_cell_at ?k_f_law_cell_at ?a_f_law_mid ?l_f_law_mid ?c_f_law_mid ?k_f_law_mid ?a_f_law_draw ?l_f_law_draw ?c_f_law_draw ?k_f_law_draw ?a_f_law_twin ?l_f_law_twin ?c_f_law_twin ?k_f_law_twin ?a_f_law_number ?l_f_law_number ?c_f_law_number ?k_f_law_number ?a_f_law_thing ?l_f_law_thing ?c_f_law_thing ?k_f_law_thing ?a_f_law_graph ?l_f_law_graph ?c_f_law_graph ?k_f_law_graph ?a_f_law_either ?l_f_law_either ?c_f_law_either ?k_f_law_either ?a_m_House_init ?i_m_House_init ?l_m_House_init ?c_m_House_init ?k_m_House_init ?t_m_House_init ?a_m_House_check_slot ?i_m_House_check_slot ?l_m_House_check_slot ?c_m_House_check_slot ?k_m_House_check_slot ?a_m_House_has_room ?i_m_House_has_room ?l_m_House_has_room ?c_m_House_has_room ?k_m_House_has_room ?a_m_House_make_room ?i_m_House_make_room ?l_m_House_make_room ?c_m_House_make_room ?k_m_House_make_room ?t_m_House_make_room ?a_f_box_name ?l_f_box_name ?c_f_box_name ?k_f_box_name ?a_f_box_thing ?l_f_box_thing ?c_f_box_thing ?k_f_box_thing ?a_f_renamed ?l_f_renamed ?c_f_renamed ?k_f_renamed ?a_m_House_build ?i_m_House_build ?l_m_House_build ?c_m_House_build ?k_m_House_build ?a_m_House_make ?i_m_House_make ?l_m_House_make ?c_m_House_make ?k_m_House_make ?t_m_House_make ?a_m_House_check_box ?i_m_House_check_box ?l_m_House_check_box ?c_m_House_check_box ?k_m_House_check_box ?a_m_House_check_thing ?i_m_House_check_thing ?l_m_House_check_thing ?c_m_House_check_thing ?k_m_House_check_thing ?a_m_House_check_field ?i_m_House_check_field ?l_m_House_check_field ?c_m_House_check_field ?k_m_House_check_field ?a_m_House_put ?i_m_House_put ?l_m_House_put ?c_m_House_put ?k_m_House_put ?a_m_House_hold ?i_m_House_hold ?l_m_House_hold ?c_m_House_hold ?k_m_House_hold ?a_f_law_house ?l_f_law_house ?c_f_law_house ?k_f_law_house ?a_f_law_look ?l_f_law_look ?c_f_law_look ?k_f_law_look ?a_f_law_close ?l_f_law_close ?c_f_law_close ?k_f_law_close ?a_f_law_whole ?l_f_law_whole ?c_f_law_whole ?k_f_law_whole ?a_f_law_road ?l_f_law_road ?c_f_law_road ?k_f_law_road ?a_f_law_held_good ?l_f_law_held_good ?c_f_law_held_good ?k_f_law_held_good ?a_m_House_names ?i_m_House_names ?l_m_House_names ?c_m_House_names ?k_m_House_names ?a_m_House_size ?i_m_House_size ?l_m_House_size ?c_m_House_size ?k_m_House_size ?a_m_House_field ?i_m_House_field ?l_m_House_field ?c_m_House_field ?k_m_House_field ?a_f_things_in ?l_f_things_in ?c_f_things_in ?k_f_things_in ?a_m_House_kind ?i_m_House_kind ?l_m_House_kind ?c_m_House_kind ?k_m_House_kind ?a_f_row_of ?l_f_row_of ?c_f_row_of ?k_f_row_of ?a_f_looks_of ?l_f_looks_of ?c_f_looks_of ?k_f_looks_of ?a_f_road_to ?l_f_road_to ?c_f_road_to ?k_f_road_to ?a_f_steps_from ?l_f_steps_from ?c_f_steps_from ?k_f_steps_from ?a_f_apart ?l_f_apart ?c_f_apart ?k_f_apart ?a_f_law ?l_f_law ?c_f_law ?k_f_law ?pgHouse ?hdHouse ?poHouse ?saHouse ?mkHouse ?kcHouse ?n_House_room ?n_House_slots ?n_House_last_name ?n_House_kinds ?n_House_fields ?n_House_queues ?n_House_told ?z_len ?z_sorted ?z_range ?z_list ?z_isinstance ?z_int ?z_bool ?z_tuple ?z_str ?z_enumerate ?z_zip ?z_dict ?z_reversed ?xg ?xf ?lf ?h_1 ?h_2 ?h_3
    case aCHouse | a_f_law_cell_at | l_f_law_cell_at | c_f_law_cell_at | k_f_law_cell_at | a_f_law_mid | l_f_law_mid | c_f_law_mid | k_f_law_mid | a_f_law_draw | l_f_law_draw | c_f_law_draw | k_f_law_draw | a_f_law_twin | l_f_law_twin | c_f_law_twin | k_f_law_twin | a_f_law_number | l_f_law_number | c_f_law_number | k_f_law_number | a_f_law_thing | l_f_law_thing | c_f_law_thing | k_f_law_thing | a_f_law_graph | l_f_law_graph | c_f_law_graph | k_f_law_graph | a_f_law_either | l_f_law_either | c_f_law_either | k_f_law_either | a_m_House_init | i_m_House_init | l_m_House_init | c_m_House_init | k_m_House_init | t_m_House_init | a_m_House_check_slot | i_m_House_check_slot | l_m_House_check_slot | c_m_House_check_slot | k_m_House_check_slot | a_m_House_has_room | i_m_House_has_room | l_m_House_has_room | c_m_House_has_room | k_m_House_has_room | a_m_House_make_room | i_m_House_make_room | l_m_House_make_room | c_m_House_make_room | k_m_House_make_room | t_m_House_make_room | a_f_box_name | l_f_box_name | c_f_box_name | k_f_box_name | a_f_box_thing | l_f_box_thing | c_f_box_thing | k_f_box_thing | a_f_renamed | l_f_renamed | c_f_renamed | k_f_renamed | a_m_House_build | i_m_House_build | l_m_House_build | c_m_House_build | k_m_House_build | a_m_House_make | i_m_House_make | l_m_House_make | c_m_House_make | k_m_House_make | t_m_House_make | a_m_House_check_box | i_m_House_check_box | l_m_House_check_box | c_m_House_check_box | k_m_House_check_box | a_m_House_check_thing | i_m_House_check_thing | l_m_House_check_thing | c_m_House_check_thing | k_m_House_check_thing | a_m_House_check_field | i_m_House_check_field | l_m_House_check_field | c_m_House_check_field | k_m_House_check_field | a_m_House_put | i_m_House_put | l_m_House_put | c_m_House_put | k_m_House_put | a_m_House_hold | i_m_House_hold | l_m_House_hold | c_m_House_hold | k_m_House_hold | a_f_law_house | l_f_law_house | c_f_law_house | k_f_law_house | a_f_law_look | l_f_law_look | c_f_law_look | k_f_law_look | a_f_law_close | l_f_law_close | c_f_law_close | k_f_law_close | a_f_law_whole | l_f_law_whole | c_f_law_whole | k_f_law_whole | a_f_law_road | l_f_law_road | c_f_law_road | k_f_law_road | a_f_law_held_good | l_f_law_held_good | c_f_law_held_good | k_f_law_held_good | a_m_House_names | i_m_House_names | l_m_House_names | c_m_House_names | k_m_House_names | a_m_House_size | i_m_House_size | l_m_House_size | c_m_House_size | k_m_House_size | a_m_House_field | i_m_House_field | l_m_House_field | c_m_House_field | k_m_House_field | a_f_things_in | l_f_things_in | c_f_things_in | k_f_things_in | a_m_House_kind | i_m_House_kind | l_m_House_kind | c_m_House_kind | k_m_House_kind | a_f_row_of | l_f_row_of | c_f_row_of | k_f_row_of | a_f_looks_of | l_f_looks_of | c_f_looks_of | k_f_looks_of | a_f_road_to | l_f_road_to | c_f_road_to | k_f_road_to | a_f_steps_from | l_f_steps_from | c_f_steps_from | k_f_steps_from | a_f_apart | l_f_apart | c_f_apart | k_f_apart | a_f_law | l_f_law | c_f_law | k_f_law | pgHouse | hdHouse | poHouse | saHouse | mkHouse | kcHouse | n_House_room | n_House_slots | n_House_last_name | n_House_kinds | n_House_fields | n_House_queues | n_House_told | z_len | z_sorted | z_range | z_list | z_isinstance | z_int | z_bool | z_tuple | z_str | z_enumerate | z_zip | z_dict | z_reversed | xg | xf | lf => k_is
    case h_1 | h_2 | h_3 => rfl
#print axioms PySem.Challenge.cw_lastword_k17_whole_parted_or_not_holds

