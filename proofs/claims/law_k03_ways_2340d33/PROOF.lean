import PyProof.Rows.All
import Wide.All
import OpenK.AllK
import Wide.FinOn
import Lean
import PyProof.EqAt
import PyProof.EqKinds
import PyProof.TupleCall
import PySem.Challenge.RW_cellways_k03_ways
set_option Elab.async false
set_option linter.all false
set_option maxRecDepth 100000
/-! THE HAND LAYER, for ints, bools, texts, own classes, LISTS and tuples (index, slices, in, append, pop ..), calls, loops. Paste it whole ahead of your own text; what your proof does not reach may be deleted. -/
namespace L2
open PySem PySem.Spec PyProof.Rows

/-- a key: an int or a str -/
abbrev Key := Sum Int Str
def keyIs : Key → Value → Bool
  | .inl k, v => Value.isInt k v
  | .inr x, v => Value.isStrOf x v
def keyH (w : World) : Key → Int
  | .inl k => hashInt k
  | .inr x => hashStr w x
theorem keyIs_shape : ∀ {k : Key} {v : Value}, keyIs k v = true → (∃ i t, k = Sum.inl i ∧ v = Value.int i t) ∨ (∃ x t, k = Sum.inr x ∧ v = Value.str x t)
  | .inl i, v, h => by
    obtain ⟨t, e⟩ := Value.isInt_shape (k := i) (v := v) h
    exact .inl ⟨i, t, rfl, e⟩
  | .inr x, v, h => by
    obtain ⟨t, e⟩ := Value.isStrOf_shape (x := x) (v := v) h
    exact .inr ⟨x, t, rfl, e⟩
theorem key_ll (a b : Int) : decide ((Sum.inl a : Key) = Sum.inl b) = (a == b) := by
  by_cases e : a = b
  · subst e; simp
  · have h : ¬ (Sum.inl a : Key) = Sum.inl b := fun q => e (Sum.inl.inj q)
    rw [decide_eq_false h]
    exact (beq_eq_false_iff_ne.mpr e).symm
theorem key_rr (a b : Str) : decide ((Sum.inr a : Key) = Sum.inr b) = decide (a = b) := by
  by_cases e : a = b
  · subst e; simp
  · have h : ¬ (Sum.inr a : Key) = Sum.inr b := fun q => e (Sum.inr.inj q)
    rw [decide_eq_false h, decide_eq_false e]
theorem key_lr (a : Int) (b : Str) : decide ((Sum.inl a : Key) = Sum.inr b) = false := decide_eq_false (fun q => nomatch q)
theorem key_rl (a : Str) (b : Int) : decide ((Sum.inr a : Key) = Sum.inl b) = false := decide_eq_false (fun q => nomatch q)

def mixKind (prog : Program) (w : World) : PySem.KeyKind prog w Key where
  is := keyIs
  hash := keyH w
  inj := fun v a b ha hb => by
    rcases keyIs_shape ha with ⟨i, t, rfl, rfl⟩ | ⟨x, t, rfl, rfl⟩
    · rcases keyIs_shape hb with ⟨j, u, rfl, e⟩ | ⟨y, u, rfl, e⟩
      · injection e with e1 _; rw [e1]
      · exact nomatch e
    · rcases keyIs_shape hb with ⟨j, u, rfl, e⟩ | ⟨y, u, rfl, e⟩
      · exact nomatch e
      · injection e with e1 _; rw [e1]
  byValue := fun k v h => by
    rcases keyIs_shape h with ⟨i, t, rfl, rfl⟩ | ⟨x, t, rfl, rfl⟩ <;> rfl
  pyHash := fun hv h => by
    rcases keyIs_shape hv with ⟨i, t, rfl, rfl⟩ | ⟨x, t, rfl, rfl⟩
    · exact wpAny_pyHash_int h
    · exact wpAny_pyHash_str h
  eqBool := fun hu hv h => by
    rcases keyIs_shape hu with ⟨i, t, rfl, rfl⟩ | ⟨x, t, rfl, rfl⟩
    · rcases keyIs_shape hv with ⟨j, u, rfl, rfl⟩ | ⟨y, u, rfl, rfl⟩
      · rw [key_ll] at h; exact wpAny_eqBool_int h
      · rw [key_lr] at h; exact SeqAt.EqAt.int_str i t y u _ _ _ _ h
    · rcases keyIs_shape hv with ⟨j, u, rfl, rfl⟩ | ⟨y, u, rfl, rfl⟩
      · rw [key_rl] at h; exact SeqAt.EqAt.str_int x t j u _ _ _ _ h
      · rw [key_rr] at h; exact wpAny_eqBool_str h
  «strs» := fun k x t v h => by
    rcases keyIs_shape h with ⟨i, u, rfl, e⟩ | ⟨y, u, rfl, e⟩
    · exact nomatch e
    · injection e with e1 _
      subst e1
      cases v <;> rfl

end L2

namespace L2
open PySem PySem.Spec PyProof.Rows

/-- a value, without the heap -/
inductive V where
  | non | bl (b : Bool) | int (i : Int) | str (x : Str) | byt (b : Array UInt8) | flt (b : UInt64) | ref (a : Addr) | ty (n : String)
  deriving DecidableEq

def RelV : V → Value → Prop
  | .non, u => u = Value.none
  | .bl b, u => u = Value.bool b
  | .int i, u => ∃ t, u = Value.int i t
  | .str x, u => ∃ t, u = Value.str x t
  | .byt b, u => ∃ t, u = Value.bytes b t
  | .flt b, u => ∃ t, u = Value.float b t
  | .ref a, u => u = Value.ref a
  | .ty n, u => u = Value.type n

abbrev Vals : List V → List Value → Prop := Paired RelV
theorem Vals.length {xs : List V} {us : List Value} (r : Vals xs us) : xs.length = us.length := Paired.length r
theorem Vals.get : ∀ {xs : List V} {us : List Value} {i : Nat} {x : V}, Vals xs us → xs[i]? = some x → ∃ u, us[i]? = some u ∧ RelV x u
  | _, _, _, _, .nil, e => by simp at e
  | _, _, 0, _, .cons r _, e => by simp at e; subst e; exact ⟨_, rfl, r⟩
  | _, _, i + 1, x, .cons _ t, e => by
    obtain ⟨u, h1, h2⟩ := Vals.get (i := i) (x := x) t (by simpa using e)
    exact ⟨u, by simpa using h1, h2⟩
theorem Vals.set {x : V} {u : Value} (r : RelV x u) : ∀ {xs : List V} {us : List Value} (i : Nat), Vals xs us → Vals (xs.set i x) (us.set i u)
  | _, _, _, .nil => .nil
  | _, _, 0, .cons _ t => .cons r t
  | _, _, i + 1, .cons q t => .cons q (Vals.set r i t)
theorem Vals.append : ∀ {xs ys : List V} {us ws : List Value}, Vals xs us → Vals ys ws → Vals (xs ++ ys) (us ++ ws)
  | _, _, _, _, .nil, s => s
  | _, _, _, _, .cons r t, s => .cons r (Vals.append t s)
theorem Vals.take : ∀ {xs : List V} {us : List Value} (n : Nat), Vals xs us → Vals (xs.take n) (us.take n)
  | _, _, 0, _ => .nil
  | _, _, _ + 1, .nil => .nil
  | _, _, n + 1, .cons r t => .cons r (Vals.take n t)
theorem Vals.drop : ∀ {xs : List V} {us : List Value} (n : Nat), Vals xs us → Vals (xs.drop n) (us.drop n)
  | _, _, 0, r => r
  | _, _, _ + 1, .nil => .nil
  | _, _, n + 1, .cons _ t => Vals.drop n t
theorem Vals.none_of : ∀ {xs : List V} {us : List Value} {i : Nat}, Vals xs us → xs[i]? = none → us[i]? = none := fun {xs us i} r e => by
  have h1 := r.length
  have h2 : xs.length ≤ i := List.getElem?_eq_none_iff.mp e
  exact List.getElem?_eq_none_iff.mpr (by omega)

def RelO : Option V → Option Value → Prop
  | some v, some u => RelV v u
  | none, none => True
  | _, _ => False
def KV {κ : Type} : List (κ × V) → List (κ × Value) → Prop := Paired fun (p : κ × V) (q : κ × Value) => p.1 = q.1 ∧ RelV p.2 q.2

/-- a key of a dict (00_mix): an int or a text -/
def kV : Key → V
  | .inl i => .int i
  | .inr x => .str x

/-- what stands at a tracked address -/
inductive HO where
  /-- a list -/
  | lst (xs : List V)
  /-- a tuple (never changes) -/
  | tup (xs : List V)
  /-- a dict whose keys are ints and texts; one whose keys are tuples of ints and texts (the empty one is both) -/
  | dK (kvs : List (Key × V)) | dT (kvs : List (List Key × V))
  /-- a set of ints: its members, its size -/
  | set (S : Int → Bool) (n : Nat)
  /-- an instance of the class at C, its dict at dx, its attributes -/
  | ins (C dx : Addr) (fs : List (Str × V))
  /-- the dict of the instance at x -/
  | own (x : Addr)
  /-- the dict of an exception -/
  | xd (fs : List (Str × V))
  /-- a bound method, f of x -/
  | met (f x : Addr)
  /-- a range object lo, lo + 1, .. below hi -/
  | rng (lo hi : Int)
  /-- a thing that is known to the object (the script; a dict while a loop walks it): read, never written while it is so -/
  | frz (o : Obj) (u : HO)
  /-- a code object's table -/
  | tbl (ps : Array Value)
  /-- any other thing, by what is true of its one object (a def of one's own: SetO a S n := HO.ext fun h => ..) -/
  | ext (φ : Heap → Prop)

abbrev Hp := Addr → Option HO
def upd (H : Hp) (a : Addr) (o : HO) : Hp := fun b => if b = a then some o else H b
theorem upd_same {H : Hp} {a : Addr} {o : HO} : upd H a o a = some o := by unfold upd; rw [if_pos rfl]
theorem upd_ne {H : Hp} {a b : Addr} {o : HO} (h : b ≠ a) : upd H a o b = H b := by unfold upd; rw [if_neg h]
/-- two objects of different content stand apart -/
theorem ne_of {H : Hp} {a b : Addr} {o u : HO} (h : H a = some o) (h' : H b = some u) (d : o ≠ u) : a ≠ b := by
  intro e; subst e; rw [h] at h'; exact d (Option.some.inj h')
theorem ne_of_none {H : Hp} {a b : Addr} {o : HO} (h : H a = some o) (h' : H b = none) : a ≠ b := by
  intro e; subst e; rw [h] at h'; cases h'

section
variable (P : Program) (w : World)
def ObjOk (H : Hp) (h : Heap) (a : Addr) : HO → Prop
  | .lst xs => xs.length ≤ sizeLine ∧ ∃ (its : List Value) (n : Nat), Vals xs its ∧ h.get? a = some { cls := .type "list", data := .seq its.toArray n }
  | .tup xs => xs.length ≤ sizeLine ∧ ∃ its : List Value, Vals xs its ∧ IsTup h a its.toArray
  | .dK kvs => kvs.length ≤ sizeLine ∧ (a == sysModules) = false ∧ ∃ vs, KV kvs vs ∧ h.DictOf (mixKind P w) a vs
  | .dT kvs => kvs.length ≤ sizeLine ∧ (a == sysModules) = false ∧ ∃ xs : List (List Key × Addr × Value),
      Paired (fun (p : List Key × V) (q : List Key × Addr × Value) => p.1 = q.1 ∧ H q.2.1 = some (.tup (p.1.map kV)) ∧ RelV p.2 q.2.2) kvs xs ∧
      ∃ o es ep, h.get? a = some o ∧ o.ExactDict ∧ o.data = .dict es ep ∧ es.toList = xs.map (entryOfKey (tupleKind (mixKind P w))) ∧ (xs.map (·.1)).Nodup
  | .set S n => h.SetOf (intKind P w) a S n
  | .ins C dx fs => H dx = some (.own a) ∧ fs.length ≤ 1000 ∧ dx ≠ a ∧ h.get? a = some (PySem.W.instObj C dx) ∧
      ∃ mA, h.Ns1 dx mA ∧ (∀ f, RelO (fs.lookup f) (mA f)) ∧ PySem.Within mA (fs.map (·.1))
  | .own _ => ∃ o, h.get? a = some o
  | .xd fs => ∃ mA, h.Ns1 a mA ∧ ∀ f, RelO (fs.lookup f) (mA f)
  | .rng lo hi => ∃ t u v, h.get? a = some { cls := .type "range", data := .fields #[.int lo t, .int hi u, .int 1 v] }
  | .frz o u => h.get? a = some o ∧ ObjOk H h a u
  | .tbl ps => h.get? a = some { cls := .none, data := .fields ps }
  | .met f x => h.get? a = some (PySem.W.methodObj (.ref f) (.ref x))
  | .ext φ => φ h ∧ (∃ o, h.get? a = some o) ∧ ∀ h1 h2 : Heap, φ h1 → (∀ o, h1.get? a = some o → h2.get? a = some o) → φ h2
/-- the abstract heap is held -/
def HOk (H : Hp) (h : Heap) : Prop := ∀ a o, H a = some o → ObjOk P w H h a o
end

section
variable {P : Program} {w : World} {H H' : Hp} {h h' : Heap} {a : Addr} {o : HO}
theorem ObjOk.lt (x : ObjOk P w H h a o) : a < h.objs.size := by
  cases o with
  | lst xs => obtain ⟨_, _, _, _, e⟩ := x; exact Heap.lt_size e
  | tup xs => obtain ⟨_, _, _, p⟩ := x; exact p.lt
  | dK kvs => obtain ⟨_, _, _, _, o, _, _, e, _⟩ := x; exact Heap.lt_size e
  | dT kvs => obtain ⟨_, _, _, _, o, _, _, e, _⟩ := x; exact Heap.lt_size e
  | set S n => obtain ⟨o, _, _, _, e, _⟩ := x; exact Heap.lt_size e
  | ins C dx fs => obtain ⟨_, _, _, e, _⟩ := x; exact Heap.lt_size e
  | own y => obtain ⟨_, e⟩ := x; exact Heap.lt_size e
  | xd fs => obtain ⟨_, ⟨_, _, _, e, _⟩, _⟩ := x; exact Heap.lt_size e
  | rng lo hi => obtain ⟨_, _, _, e⟩ := x; exact Heap.lt_size e
  | frz ob u => obtain ⟨e, _⟩ := x; exact Heap.lt_size e
  | tbl ps => exact Heap.lt_size (show h.get? a = some _ from x)
  | met f y => exact Heap.lt_size (show h.get? a = some _ from x)
  | ext φ => obtain ⟨_, ⟨_, e⟩, _⟩ := x; exact Heap.lt_size e
theorem Paired.mapP {α β : Type} {F G : α → β → Prop} : ∀ {l₁ : List α} {l₂ : List β}, Paired F l₁ l₂ → (∀ a b, F a b → G a b) → Paired G l₁ l₂
  | _, _, .nil, _ => .nil
  | _, _, .cons r t, f => .cons (f _ _ r) (Paired.mapP t f)
/-- what an object's description leans on: its own object, its own dict, the tuples -/
theorem ObjOk.stay (x : ObjOk P w H h a o) (k : ∀ b u, (b = a ∨ H b = some (.own a)) → h.get? b = some u → h'.get? b = some u)
    (ho : ∀ b, H b = some (.own a) → H' b = some (.own a)) (ht : ∀ b xs, H b = some (.tup xs) → H' b = some (.tup xs)) : ObjOk P w H' h' a o := by
  induction o with
  | lst xs => obtain ⟨z, its, n, r, e⟩ := x; exact ⟨z, its, n, r, k _ _ (.inl rfl) e⟩
  | tup xs => obtain ⟨z, its, r, ob, e, c⟩ := x; exact ⟨z, its, r, ob, k _ _ (.inl rfl) e, c⟩
  | dK kvs => obtain ⟨z, y, vs, r, ob, es, ep, e, c⟩ := x; exact ⟨z, y, vs, r, ob, es, ep, k _ _ (.inl rfl) e, c⟩
  | dT kvs =>
    obtain ⟨z, y, xs, r, ob, es, ep, e, c⟩ := x
    exact ⟨z, y, xs, Paired.mapP r fun p q z => ⟨z.1, ht _ _ z.2.1, z.2.2⟩, ob, es, ep, k _ _ (.inl rfl) e, c⟩
  | set S n => obtain ⟨ob, es, ep, t, e, c⟩ := x; exact ⟨ob, es, ep, t, k _ _ (.inl rfl) e, c⟩
  | ins C dx fs =>
    obtain ⟨d, z, ne, e, mA, ⟨od, es, ep, e2, c⟩, r⟩ := x
    exact ⟨ho _ d, z, ne, k _ _ (.inl rfl) e, mA, ⟨od, es, ep, k _ _ (.inr d) e2, c⟩, r⟩
  | own y => obtain ⟨ob, e⟩ := x; exact ⟨ob, k _ _ (.inl rfl) e⟩
  | xd fs => obtain ⟨mA, ⟨od, es, ep, e, c⟩, r⟩ := x; exact ⟨mA, ⟨od, es, ep, k _ _ (.inl rfl) e, c⟩, r⟩
  | rng lo hi => obtain ⟨t, u, v, e⟩ := x; exact ⟨t, u, v, k _ _ (.inl rfl) e⟩
  | frz ob u ih => obtain ⟨e, q⟩ := x; exact ⟨k _ _ (.inl rfl) e, ih q⟩
  | tbl ps =>
    have e : h.get? a = some { cls := .none, data := .fields ps } := x
    show h'.get? a = some { cls := .none, data := .fields ps }
    exact k a _ (.inl rfl) e
  | met f y =>
    have e : h.get? a = some (PySem.W.methodObj (.ref f) (.ref y)) := x
    show h'.get? a = some (PySem.W.methodObj (.ref f) (.ref y))
    exact k a _ (.inl rfl) e
  | ext φ => obtain ⟨p, ⟨o, e⟩, st⟩ := x; exact ⟨st _ _ p fun o q => k _ _ (.inl rfl) q, ⟨o, k _ _ (.inl rfl) e⟩, st⟩
theorem HOk.lt (x : HOk P w H h) (e : H a = some o) : a < h.objs.size := (x a o e).lt
theorem HOk.fresh (x : HOk P w H h) (e : h.objs.size ≤ a) : H a = none := by
  cases q : H a with
  | none => rfl
  | some u => exact absurd (Nat.lt_of_lt_of_le (x.lt q) e) (Nat.lt_irrefl _)
/-- every object of the heap is kept -/
theorem HOk.kept (x : HOk P w H h) (k : ∀ b u, h.get? b = some u → h'.get? b = some u) : HOk P w H h' := fun a o e =>
  (x a o e).stay (fun b u _ q => k b u q) (fun _ q => q) fun _ _ q => q
/-- a new object is laid and tracked -/
theorem HOk.laid (x : HOk P w H h) (k : ∀ b u, h.get? b = some u → h'.get? b = some u) (hp : h.objs.size ≤ a) (new : ObjOk P w (upd H a o) h' a o) : HOk P w (upd H a o) h' := fun b u e => by
  have hn := x.fresh hp
  by_cases hb : b = a
  · subst hb; rw [upd_same] at e; cases e; exact new
  · rw [upd_ne hb] at e
    exact (x b u e).stay (fun c v _ q => k c v q) (fun c q => by rw [upd_ne (ne_of_none q hn)]; exact q) fun c xs q => by rw [upd_ne (ne_of_none q hn)]; exact q
end

/-- what may be read as u: it is u, or a known u -/
def Rd (H : Hp) (a : Addr) (u : HO) : Prop := H a = some u ∨ ∃ o, H a = some (.frz o u)
theorem Rd.of {H : Hp} {a : Addr} {u : HO} (h : H a = some u) : Rd H a u := .inl h
theorem Rd.ok {P : Program} {w : World} {H : Hp} {h : Heap} {a : Addr} {u : HO} (r : Rd H a u) (x : HOk P w H h) : ObjOk P w H h a u := by
  rcases r with r | ⟨o, r⟩
  · exact x a u r
  · obtain ⟨_, q⟩ := x a _ r
    exact q
/-- what may be written -/
def Mut : Option HO → Prop
  | some (.lst _) => True
  | some (.dK _) => True
  | some (.dT _) => True
  | some (.set _ _) => True
  | some (.ins _ _ _) => True
  | some (.ext _) => True
  | _ => False
section
variable {P : Program} {w : World} {H : Hp} {h h' : Heap} {x e : Addr} {o' : HO}
/-- the object at e is changed: x itself, or the dict of the instance x -/
theorem HOk.write (ok : HOk P w H h) (mu : Mut (H x)) (he : e = x ∨ H e = some (.own x)) (k : ∀ b u, b ≠ e → h.get? b = some u → h'.get? b = some u) (heo : ∃ u, h'.get? e = some u)
    (new : ObjOk P w (upd H x o') h' x o') : HOk P w (upd H x o') h' := fun b u q => by
  have nown : ∀ c y, H c = some (.own y) → c ≠ x := fun c y r z => by subst z; rw [r] at mu; exact mu
  have ntup : ∀ c xs, H c = some (.tup xs) → c ≠ x := fun c xs r z => by subst z; rw [r] at mu; exact mu
  by_cases hb : b = x
  · subst hb; rw [upd_same] at q; cases q; exact new
  · rw [upd_ne hb] at q
    by_cases hbe : b = e
    · have q' : H b = some (.own x) := by
        rcases he with z | z
        · exact absurd (hbe.trans z) hb
        · rw [hbe]; exact z
      rw [q] at q'; cases q'
      obtain ⟨v, hv⟩ := heo
      exact ⟨v, by rw [hbe]; exact hv⟩
    · refine (ok b u q).stay (fun c v hc r => k c v ?_ r) (fun c r => by rw [upd_ne (nown c b r)]; exact r) fun c xs r => by rw [upd_ne (ntup c xs r)]; exact r
      rcases hc with rfl | hc
      · exact hbe
      · rintro rfl
        rcases he with z | z
        · exact nown c b hc z
        · rw [hc] at z; cases z; exact hb rfl
end

/-! ### kept unless tracked; of the frames at fs (the callers') the slots may change (an exception that passes writes there); of the records at ex (iterators) nothing is said -/
structure Un (fs ex : List Addr) (H H' : Hp) (h h' : Heap) : Prop where
  keep : ∀ b o, h.get? b = some o → H b = none → b ∉ fs → b ∉ ex → h'.get? b = some o
  slot : ∀ b o, h.get? b = some o → H b = none → b ∈ fs → b ∉ ex → ∃ sl, h'.get? b = some { o with slots := sl }
  free : ∀ b o, h.get? b = some o → H b = none → b ∉ ex → H' b = none
  there : ∀ b o, h.get? b = some o → b ∉ ex → ∃ o', h'.get? b = some o'
  tups : ∀ b xs, H b = some (.tup xs) → H' b = some (.tup xs)
  frzs : ∀ b o u, H b = some (.frz o u) → H' b = some (.frz o u)
  tbls : ∀ b ps, H b = some (.tbl ps) → ∃ more, H' b = some (.tbl (ps ++ more))
section
variable {fs fs' ex ex' : List Addr} {H H1 H2 : Hp} {h h1 h2 h' : Heap} {a x e : Addr} {o : HO}
theorem Un.any (u : Un fs ex H H1 h h1) {b : Addr} {ob : Obj} (q : h.get? b = some ob) (n : H b = none) (hx : b ∉ ex) : ∃ sl, h1.get? b = some { ob with slots := sl } := by
  by_cases hb : b ∈ fs
  · exact u.slot b ob q n hb hx
  · exact ⟨ob.slots, u.keep b ob q n hb hx⟩
theorem Un.trans (a : Un fs ex H H1 h h1) (b : Un fs ex H1 H2 h1 h2) : Un fs ex H H2 h h2 where
  keep := fun c ob q n hc hx => b.keep c ob (a.keep c ob q n hc hx) (a.free c ob q n hx) hc hx
  slot := fun c ob q n hc hx => by
    obtain ⟨sl, e1⟩ := a.slot c ob q n hc hx
    obtain ⟨sl', e2⟩ := b.slot c _ e1 (a.free c ob q n hx) hc hx
    exact ⟨sl', e2⟩
  free := fun c ob q n hx => by
    obtain ⟨o', e1⟩ := a.there c ob q hx
    exact b.free c o' e1 (a.free c ob q n hx) hx
  there := fun c ob q hx => by
    obtain ⟨o', e1⟩ := a.there c ob q hx
    exact b.there c o' e1 hx
  tups := fun c xs q => b.tups c xs (a.tups c xs q)
  frzs := fun c ob xs q => b.frzs c ob xs (a.frzs c ob xs q)
  tbls := fun c ps q => by
    obtain ⟨m1, e1⟩ := a.tbls c ps q
    obtain ⟨m2, e2⟩ := b.tbls c _ e1
    exact ⟨m1 ++ m2, by rw [e2, Array.append_assoc]⟩
theorem Un.kept (k : ∀ b u, h.get? b = some u → h'.get? b = some u) : Un fs ex H H h h' :=
  ⟨fun b ob q _ _ _ => k b ob q, fun b ob q _ _ _ => ⟨ob.slots, k b ob q⟩, fun _ _ _ n _ => n, fun b ob q _ => ⟨ob, k b ob q⟩, fun _ _ q => q, fun _ _ _ q => q, fun _ ps q => ⟨#[], by rw [q]; simp⟩⟩
theorem Un.refl : Un fs ex H H h h := Un.kept fun _ _ q => q
theorem Un.laid (k : ∀ b u, h.get? b = some u → h'.get? b = some u) (hp : h.objs.size ≤ a) (hn : H a = none) : Un fs ex H (upd H a o) h h' where
  keep := fun b u q _ _ _ => k b u q
  slot := fun b u q _ _ _ => ⟨u.slots, k b u q⟩
  free := fun b u q n _ => by rw [upd_ne (Nat.ne_of_lt (Nat.lt_of_lt_of_le (Heap.lt_size q) hp))]; exact n
  there := fun b u q _ => ⟨u, k b u q⟩
  tups := fun b xs q => by rw [upd_ne (ne_of_none q hn)]; exact q
  frzs := fun b u xs q => by rw [upd_ne (ne_of_none q hn)]; exact q
  tbls := fun b ps q => ⟨#[], by rw [upd_ne (ne_of_none q hn), q]; simp⟩
theorem Un.write (mu : Mut (H x)) (he : e = x ∨ H e = some (.own x)) (k : ∀ b u, b ≠ e → h.get? b = some u → h'.get? b = some u) (heo : ∃ u, h'.get? e = some u) : Un fs ex H (upd H x o) h h' := by
  have hx : ∀ b, H b = none → b ≠ x := fun b n z => by subst z; rw [n] at mu; exact mu
  have hb : ∀ b, H b = none → b ≠ e := fun b n z => by
    subst z
    rcases he with r | r
    · exact hx b n r
    · rw [n] at r; cases r
  have hm : ∀ b u, H b = some u → ¬ Mut (some u) → b ≠ x := fun b u q nm z => by subst z; rw [q] at mu; exact nm mu
  refine ⟨fun b u q n _ _ => k b u (hb b n) q, fun b u q n _ _ => ⟨u.slots, k b u (hb b n) q⟩, fun b u q n _ => by rw [upd_ne (hx b n)]; exact n, fun b u q _ => ?_,
    fun b xs q => by rw [upd_ne (hm b _ q fun z => z)]; exact q, fun b u xs q => by rw [upd_ne (hm b _ q fun z => z)]; exact q, fun b ps q => ⟨#[], by rw [upd_ne (hm b _ q fun z => z), q]; simp⟩⟩
  by_cases hbe : b = e
  · subst hbe; exact heo
  · exact ⟨u, k b u hbe q⟩
theorem Un.mono (u : Un fs ex H H1 h h1) (hs : ∀ b ∈ fs, b ∈ fs') (hx : ∀ b ∈ ex, b ∈ ex') : Un fs' ex' H H1 h h1 :=
  ⟨fun b ob q n hb he => u.keep b ob q n (fun z => hb (hs b z)) fun z => he (hx b z), fun _ _ q n _ he => u.any q n fun z => he (hx _ z), fun b ob q n he => u.free b ob q n fun z => he (hx b z), fun b ob q he => u.there b ob q fun z => he (hx b z), u.tups, u.frzs, u.tbls⟩
end

/-! ### the heap without what is tracked -/
def trk (h : Heap) (H : Hp) : List Addr := (List.range h.objs.size).filter fun a => (H a).isSome
def hidT (h : Heap) (H : Hp) : Heap := PySem.W.hideAll h (trk h H)
theorem hidT_size (h : Heap) (H : Hp) : (hidT h H).objs.size = h.objs.size := PySem.W.hideAll_size _ _
theorem hidT_get {h : Heap} {H : Hp} {b : Addr} {o : Obj} (e : h.get? b = some o) (n : H b = none) : (hidT h H).get? b = some o :=
  PySem.W.hideAll_get _ e fun hm => by
    have q : (H b).isSome = true := (List.mem_filter.mp hm).2
    rw [n] at q; simp at q
theorem of_hidT {h : Heap} {H : Hp} {b : Addr} {o : Obj} (e : (hidT h H).get? b = some o) : h.get? b = some o ∧ H b = none := by
  have e' : h.get? b = some o := PySem.W.of_hideAll (trk h H) e
  refine ⟨e', ?_⟩
  cases q : H b with
  | none => rfl
  | some x =>
    have hm : b ∈ trk h H := List.mem_filter.mpr ⟨List.mem_range.mpr (Heap.lt_size e'), by simp [q]⟩
    have z : (hidT h H).get? b = none := PySem.W.hideAll_none (trk h H) hm
    rw [z] at e; cases e

/-! ### OpenK's ledger, filled with every new object but one -/
def allNews (g h : Heap) (L : Addr) : List (Addr × Obj) := (List.range h.objs.size).filterMap fun a => if a = L ∨ (g.get? a).isSome = true then none else (h.get? a).map fun o => (a, o)
def rest (g h : Heap) (L d : Addr) : List (Addr × Obj) := (allNews g h L).filter fun p => decide (p.1 ≠ d)
end L2

namespace L2
open PySem PySem.Spec PyProof.Rows

/-- the module's facts, over the base: the heap at the law's entry without what is tracked there -/
structure Mod (K : PySem.W.Frag) (mg : Str → Option Value) (base : Heap) : Prop where
  kin : K.In base
  glob : base.Ns mainGlobals mg
  blt : ∃ mb, base.Ns builtinsNs mb ∧ ∀ x : Str, x ≠ "__name__" → mb x = bootBuiltins x
  nolimit : base.NoLimit

/-- the context: a def's body (or a comprehension's block) running. base: fixed through the whole law; s₀, H₀: the entry; outer: the frames whose slots others may change (a def's callers); stack: all frames that run;
   ex: iterators that were made ahead of the entry and are walked here (a comprehension's); fn: the names whose cells were made at the entry (a def: all; a comprehension's block: its own); calm: not within an except suite; pn: pins that every state bears; xe: what is wanted of an exception that leaves the code -/
structure Cx where
  prog : Program
  w : World
  K : PySem.W.Frag
  mg : Str → Option Value
  base : Heap
  A : Around
  N : List Str
  s₀ : Shared
  H₀ : Hp
  env : Env
  outer : List Env
  stack : List Env
  ex : List Addr
  fn : Str → Bool
  calm : Bool
  pn : List (Addr × Obj)
  xe : Value → Shared → Prop
/-- the callers' frames -/
def frs (l : List Env) : List Addr := l.filterMap (·.frame)
abbrev Cx.fs (X : Cx) : List Addr := frs X.outer

def Vis (sc : Scope) (x : Str) : Prop := sc.names.lookup x = some .local ∨ sc.names.lookup x = some .cell ∨ sc.names.lookup x = some .free
def Loc (sc : Scope) (x : Str) : Prop := sc.names.lookup x = some .local ∨ sc.names.lookup x = some .cell
def Look (env : Env) (h : Heap) (m : Str → Option Value) (x : Str) (u : Value) : Prop :=
  (env.kindOf x = some .local ∧ m x = some u) ∨ ((env.kindOf x = some .cell ∨ env.kindOf x = some .free) ∧ ∃ c, env.cells.lookup x = some c ∧ h.IsCell c (some u))

structure Cx.Ok (X : Cx) : Prop where
  mod : Mod X.K X.mg X.base
  kind : X.env.scope.kind = .function
  glob : X.env.globals = mainGlobals
  blt : X.env.builtins = builtinsNs
  above : X.s₀.heap.objs.size ≤ X.env.locals
  inj : ∀ x y c, X.env.cells.lookup x = some c → X.env.cells.lookup y = some c → x = y
  has : ∀ x, (X.env.kindOf x = some .cell ∨ X.env.kindOf x = some .free) → ∃ c, X.env.cells.lookup x = some c
  cab : ∀ x c, X.fn x = true → X.env.cells.lookup x = some c → X.s₀.heap.objs.size ≤ c
  hd : X.calm = true → X.A.handled = none
  frames : X.A.frames = some X.stack
  stk : X.stack = X.outer ∨ (X.stack = X.env :: X.outer ∧ X.env.frame = some X.env.locals)
  exf : ∀ b ∈ X.ex, b ≠ X.env.locals ∧ ∀ x c, X.env.cells.lookup x = some c → c ≠ b
  bs : ∀ b o, X.base.get? b = some o → X.s₀.heap.get? b = some o ∧ X.H₀ b = none
  bsz : X.base.objs.size ≤ X.s₀.heap.objs.size
  noex : ∀ b o, X.base.get? b = some o → b ∉ X.ex
  exfs : ∀ b ∈ X.ex, b ∉ X.fs
  funs : X.s₀.heap.FunFrames X.base X.outer
  frf : ∀ b ∈ X.fs, X.H₀ b = none

structure Inv (X : Cx) (pins : List (Addr × Obj)) (σ : List (Option V)) (H : Hp) (s : Shared) : Prop where
  ok : X.Ok
  os : s.os = X.s₀.os
  bare : AllBare s.gens
  base : Un X.fs X.ex X.H₀ H X.s₀.heap s.heap
  loc : ∃ m, s.heap.Ns X.env.locals m ∧ ∀ (i : Nat) (x : Str) (v : V), X.N[i]? = some x → σ[i]? = some (some v) → Vis X.env.scope x → ∃ u, RelV v u ∧ Look X.env s.heap m x u
  cell : ∀ x c, X.env.cells.lookup x = some c → ∃ v, s.heap.IsCell c v
  free : H X.env.locals = none
  freeC : ∀ x c, X.env.cells.lookup x = some c → H c = none
  pin : ∀ p ∈ X.pn ++ pins, s.heap.get? p.1 = some p.2 ∧ H p.1 = none ∧ p.1 ≠ X.env.locals ∧ p.1 ∉ X.fs ∧ ∀ v, p.2.data ≠ .cell v
  hok : HOk X.prog X.w H s.heap
  len : σ.length = X.N.length

section
variable {X : Cx} {pins : List (Addr × Obj)} {σ : List (Option V)} {H H' : Hp} {s : Shared} {h' : Heap}

theorem Cx.Ok.nofr (ok : X.Ok) {b : Addr} {o : Obj} (e : X.base.get? b = some o) : b ∉ X.fs := fun hb => by
  have := (ok.funs.mem hb).1
  rw [e] at this; cases this
theorem Inv.bs (I : Inv X pins σ H s) : ∀ b o, X.base.get? b = some o → s.heap.get? b = some o ∧ H b = none := fun b o e =>
  ⟨I.base.keep b o (I.ok.bs b o e).1 (I.ok.bs b o e).2 (I.ok.nofr e) (I.ok.noex b o e), I.base.free b o (I.ok.bs b o e).1 (I.ok.bs b o e).2 (I.ok.noex b o e)⟩
theorem Inv.bk (I : Inv X pins σ H s) : ∀ b o, X.base.get? b = some o → s.heap.get? b = some o := fun b o e => (I.bs b o e).1
theorem Inv.mod (I : Inv X pins σ H s) : Mod X.K X.mg X.base := I.ok.mod
theorem Inv.kIn (I : Inv X pins σ H s) : X.K.In s.heap := I.ok.mod.kin.keeps I.bk
theorem Inv.nolimit (I : Inv X pins σ H s) : s.heap.NoLimit := I.ok.mod.nolimit.keeps I.bk
theorem Inv.lt (I : Inv X pins σ H s) : X.env.locals < s.heap.objs.size := let ⟨_, hn, _⟩ := I.loc; hn.lt
theorem Inv.sz (I : Inv X pins σ H s) : X.s₀.heap.objs.size ≤ s.heap.objs.size := Nat.le_trans I.ok.above (Nat.le_of_lt I.lt)
theorem Inv.nofs (I : Inv X pins σ H s) {a : Addr} (h : s.heap.objs.size ≤ a) : a ∉ X.fs := fun hb => by
  obtain ⟨_, o, ho, _⟩ := I.ok.funs.mem hb
  exact absurd (Nat.lt_of_lt_of_le (Heap.lt_size ho) (Nat.le_trans I.sz h)) (Nat.lt_irrefl _)
theorem Inv.cne (I : Inv X pins σ H s) : ∀ x c, X.env.cells.lookup x = some c → c ≠ X.env.locals := fun x c e z => by
  obtain ⟨v, o, ho, hd⟩ := I.cell x c e
  obtain ⟨m, ⟨o', es, ep, ho', hd', _⟩, _⟩ := I.loc
  rw [z, ho'] at ho; cases ho; rw [hd'] at hd; cases hd
theorem Inv.funs (I : Inv X pins σ H s) : s.heap.FunFrames X.base X.outer := by
  have all : ∀ (l : List Env), (∀ b ∈ frs l, b ∈ X.fs) → X.s₀.heap.FunFrames X.base l → s.heap.FunFrames X.base l := by
    intro l
    induction l with
    | nil => intro _ _; trivial
    | cons env r ih =>
      intro hs hl
      obtain ⟨hk, ⟨L, o, hf, hn, ho, hd⟩, hr⟩ := hl
      have hL : L ∈ X.fs := hs L (by unfold frs; rw [List.filterMap_cons, hf]; exact List.mem_cons_self)
      obtain ⟨sl, e⟩ := I.base.slot L o ho (I.ok.frf L hL) hL fun z => I.ok.exfs L z hL
      exact ⟨hk, ⟨L, _, hf, hn, e, hd⟩, ih (fun b hb => hs b (by unfold frs; rw [List.filterMap_cons, hf]; exact List.mem_cons_of_mem _ hb)) hr⟩
  exact all X.outer (fun _ hb => hb) I.ok.funs

/-- the frames that run, for a call -/
theorem Inv.stack (I : Inv X pins σ H s) : s.heap.FunFrames X.base X.stack := by
  rcases I.ok.stk with e | ⟨e, hf⟩
  · rw [e]; exact I.funs
  · rw [e]
    obtain ⟨m, hn, _⟩ := I.loc
    refine .cons (by rw [I.ok.kind]; decide) hf hn ?_ I.funs
    exact Heap.get?_none_of_le (Nat.le_trans I.ok.bsz I.ok.above)
theorem Inv.stkSub (I : Inv X pins σ H s) : ∀ b ∈ frs X.stack, b ∈ X.env.locals :: X.fs := fun b hb => by
  rcases I.ok.stk with e | ⟨e, hf⟩
  · rw [e] at hb; exact List.mem_cons_of_mem _ hb
  · rw [e] at hb
    unfold frs at hb
    rw [List.filterMap_cons, hf] at hb
    exact hb
theorem Inv.stkFree (I : Inv X pins σ H s) : ∀ b ∈ frs X.stack, H b = none := fun b hb => by
  rcases List.mem_cons.mp (I.stkSub b hb) with e | hb
  · rw [e]; exact I.free
  · obtain ⟨_, o, ho, _⟩ := I.ok.funs.mem hb
    exact I.base.free b o ho (I.ok.frf b hb) fun z => I.ok.exfs b z hb

/-- THE STEP: the untracked objects but the frame and the records at ch are kept (the callers' frames up to slots), the frame's map is kept, the new abstract heap is held -/
theorem Inv.step {g' : Array GenState} {t' : Nat} {d' : Drawn} {ch : List Addr} (I : Inv X pins σ H s)
    (hch : ∀ b ∈ ch, (b ∈ X.ex ∨ X.s₀.heap.objs.size ≤ b) ∧ b ≠ X.env.locals ∧ (∀ x c, X.env.cells.lookup x = some c → c ≠ b) ∧ ∀ p ∈ X.pn ++ pins, p.1 ≠ b)
    (keep : ∀ b o, b ≠ X.env.locals → b ∉ X.fs → b ∉ ch → s.heap.get? b = some o → H b = none → h'.get? b = some o)
    (slot : ∀ b o, b ≠ X.env.locals → b ∈ X.fs → b ∉ ch → s.heap.get? b = some o → H b = none → ∃ sl, h'.get? b = some { o with slots := sl }) (free : ∀ b o, b ∉ ch → s.heap.get? b = some o → H b = none → H' b = none)
    (there : ∀ b o, b ∉ ch → s.heap.get? b = some o → ∃ o', h'.get? b = some o')
    (tups : ∀ b xs, H b = some (.tup xs) → H' b = some (.tup xs)) (frzs : ∀ b o u, H b = some (.frz o u) → H' b = some (.frz o u)) (tbls : ∀ b ps, H b = some (.tbl ps) → ∃ more, H' b = some (.tbl (ps ++ more)))
    (ns : ∀ m, s.heap.Ns X.env.locals m → h'.Ns X.env.locals m) (hok : HOk X.prog X.w H' h') (hg : AllBare g') :
    Inv X pins σ H' { s with heap := h', gens := g', drawn := d', toks := t' } := by
  have neL : ∀ b o, X.s₀.heap.get? b = some o → b ≠ X.env.locals := fun b o e => Nat.ne_of_lt (Nat.lt_of_lt_of_le (Heap.lt_size e) I.ok.above)
  have neC : ∀ b o, X.s₀.heap.get? b = some o → b ∉ X.ex → b ∉ ch := fun b o e hx hb => by
    rcases (hch b hb).1 with z | z
    · exact hx z
    · exact absurd (Nat.lt_of_lt_of_le (Heap.lt_size e) z) (Nat.lt_irrefl _)
  have cellK : ∀ x c, X.env.cells.lookup x = some c → ∀ v, s.heap.IsCell c v → h'.IsCell c v := fun x c e v ⟨o, ho, hd⟩ => by
    have nch : c ∉ ch := fun z => (hch c z).2.2.1 x c e rfl
    by_cases hc : c ∈ X.fs
    · obtain ⟨sl, q⟩ := slot c o (I.cne x c e) hc nch ho (I.freeC x c e)
      exact ⟨_, q, hd⟩
    · exact ⟨o, keep c o (I.cne x c e) hc nch ho (I.freeC x c e), hd⟩
  refine ⟨I.ok, I.os, hg, ⟨fun b o e n hb hx => ?_, fun b o e n hb hx => ?_, fun b o e n hx => ?_, fun b o e hx => ?_, fun b xs e => tups b xs (I.base.tups b xs e), fun b o xs e => frzs b o xs (I.base.frzs b o xs e), fun b ps e => ?_⟩, ?_, fun x c e => ?_, ?_, fun x c e => ?_, fun p hp => ?_, hok, I.len⟩
  · exact keep b o (neL b o e) hb (neC b o e hx) (I.base.keep b o e n hb hx) (I.base.free b o e n hx)
  · obtain ⟨sl, e1⟩ := I.base.slot b o e n hb hx
    obtain ⟨sl', e2⟩ := slot b _ (neL b o e) hb (neC b o e hx) e1 (I.base.free b o e n hx)
    exact ⟨sl', e2⟩
  · obtain ⟨o', e1⟩ := I.base.there b o e hx
    exact free b o' (neC b o e hx) e1 (I.base.free b o e n hx)
  · obtain ⟨o', e1⟩ := I.base.there b o e hx
    exact there b o' (neC b o e hx) e1
  · obtain ⟨m1, e1⟩ := I.base.tbls b ps e
    obtain ⟨m2, e2⟩ := tbls b _ e1
    exact ⟨m1 ++ m2, by rw [e2, Array.append_assoc]⟩
  · obtain ⟨m, hn, hl⟩ := I.loc
    refine ⟨m, ns m hn, fun i x v e1 e2 e3 => ?_⟩
    obtain ⟨u, r, l⟩ := hl i x v e1 e2 e3
    refine ⟨u, r, ?_⟩
    rcases l with l | ⟨k, c, e, z⟩
    · exact .inl l
    · exact .inr ⟨k, c, e, cellK x c e _ z⟩
  · obtain ⟨v, z⟩ := I.cell x c e
    exact ⟨v, cellK x c e v z⟩
  · obtain ⟨m, ⟨o, _, _, ho, _⟩, _⟩ := I.loc
    exact free _ o (fun z => (hch _ z).2.1 rfl) ho I.free
  · obtain ⟨v, o, ho, hd⟩ := I.cell x c e
    exact free c o (fun z => (hch c z).2.2.1 x c e rfl) ho (I.freeC x c e)
  · obtain ⟨e, n, ne, nf, d⟩ := I.pin p hp
    have nch : p.1 ∉ ch := fun z => (hch p.1 z).2.2.2 p hp rfl
    exact ⟨keep p.1 p.2 ne nf nch e n, free p.1 p.2 nch e n, ne, nf, d⟩
/-- .. where the frame's own object is kept too -/
theorem Inv.un {t' : Nat} (I : Inv X pins σ H s) (u : Un X.fs [] H H' s.heap h') (hok : HOk X.prog X.w H' h') : Inv X pins σ H' { s with heap := h', toks := t' } := by
  obtain ⟨m, ⟨o, es, ep, ho, r⟩, _⟩ := id I.loc
  obtain ⟨sl, hL⟩ := u.any ho I.free (by simp)
  exact I.step (g' := s.gens) (d' := s.drawn) (ch := []) (fun _ z => nomatch z) (fun b o _ hb _ e n => u.keep b o e n hb (by simp)) (fun b o _ hb _ e n => u.slot b o e n hb (by simp)) (fun b o _ e n => u.free b o e n (by simp)) (fun b o _ e => u.there b o e (by simp)) u.tups u.frzs u.tbls (fun m' hm => by
    obtain ⟨o', es', ep', ho', r'⟩ := hm
    rw [ho] at ho'; cases ho'
    exact ⟨_, es', ep', hL, r'⟩) hok I.bare
/-- behind a call (or a comprehension's block): the slots of this frame may have changed too, the records at ch may have turned -/
theorem Inv.call {g' : Array GenState} {t' : Nat} {d' : Drawn} {ch : List Addr} (I : Inv X pins σ H s) (u : Un (frs X.stack) ch H H' s.heap h') (hok : HOk X.prog X.w H' h') (hg : AllBare g')
    (hch : ∀ b ∈ ch, (b ∈ X.ex ∨ X.s₀.heap.objs.size ≤ b) ∧ b ≠ X.env.locals ∧ (∀ x c, X.env.cells.lookup x = some c → c ≠ b) ∧ ∀ p ∈ X.pn ++ pins, p.1 ≠ b) :
    Inv X pins σ H' { s with heap := h', gens := g', drawn := d', toks := t' } := by
  obtain ⟨m, ⟨o, es, ep, ho, r⟩, _⟩ := id I.loc
  obtain ⟨sl, hL⟩ := u.any ho I.free fun z => (hch _ z).2.1 rfl
  exact I.step (ch := ch) hch (fun b o hL hb hc e n => u.keep b o e n (fun z => (List.mem_cons.mp (I.stkSub b z)).elim hL hb) hc) (fun b o _ _ hc e n => u.any e n hc) (fun b o hc e n => u.free b o e n hc) (fun b o hc e => u.there b o e hc) u.tups u.frzs u.tbls (fun m' hm => by
    obtain ⟨o', es', ep', ho', r'⟩ := hm
    rw [ho] at ho'; cases ho'
    exact ⟨_, es', ep', hL, r'⟩) hok hg
/-- an untracked record of ours (an iterator) has turned -/
theorem Inv.turned {t' : Nat} {it : Addr} (I : Inv X pins σ H s) (k : ∀ b o, b ≠ it → s.heap.get? b = some o → h'.get? b = some o) (hn : H it = none) (hL : it ≠ X.env.locals)
    (h1 : it ∈ X.ex ∨ X.s₀.heap.objs.size ≤ it) (h2 : ∀ x c, X.env.cells.lookup x = some c → c ≠ it) (h3 : ∀ p ∈ X.pn ++ pins, p.1 ≠ it) : Inv X pins σ H { s with heap := h', toks := t' } := by
  have nit : ∀ b u, H b = some u → b ≠ it := fun b u e z => by rw [z, hn] at e; cases e
  refine I.step (g' := s.gens) (d' := s.drawn) (ch := [it]) (fun b hb => ?_) (fun b o _ _ hc e _ => k b o (fun z => hc (by simp [z])) e) (fun b o _ _ hc e _ => ⟨o.slots, k b o (fun z => hc (by simp [z])) e⟩) (fun _ _ _ _ n => n)
    (fun b o hc e => ⟨o, k b o (fun z => hc (by simp [z])) e⟩) (fun _ _ e => e) (fun _ _ _ e => e) (fun b ps e => ⟨#[], by rw [e]; simp⟩) (fun m hm => ?_) (fun b u e => ?_) I.bare
  · have e : b = it := by simpa using hb
    subst e
    exact ⟨h1, hL, h2, h3⟩
  · obtain ⟨o, es, ep, ho, r⟩ := hm
    exact ⟨o, es, ep, k _ o (Ne.symm hL) ho, r⟩
  · refine (I.hok b u e).stay (fun c v hc q => k c v ?_ q) (fun _ q => q) fun _ _ q => q
    rcases hc with z | z
    · rw [z]; exact nit b u e
    · exact nit c _ z
theorem Inv.tok (I : Inv X pins σ H s) (t : Nat) : Inv X pins σ H { s with toks := t } := I.un (h' := s.heap) (t' := t) Un.refl I.hok
/-- all objects kept -/
theorem Inv.kept {t' : Nat} (I : Inv X pins σ H s) (k : ∀ b u, s.heap.get? b = some u → h'.get? b = some u) : Inv X pins σ H { s with heap := h', toks := t' } := I.un (Un.kept k) (I.hok.kept k)
/-- a new object laid and tracked -/
theorem Inv.laid {a : Addr} {o : HO} {t' : Nat} (I : Inv X pins σ H s) (k : ∀ b u, s.heap.get? b = some u → h'.get? b = some u) (hp : s.heap.objs.size ≤ a) (new : ObjOk X.prog X.w (upd H a o) h' a o) :
    Inv X pins σ (upd H a o) { s with heap := h', toks := t' } := I.un (Un.laid k hp (I.hok.fresh hp)) (I.hok.laid k hp new)
/-- an object written -/
theorem Inv.write {x e : Addr} {o : HO} {t' : Nat} (I : Inv X pins σ H s) (mu : Mut (H x)) (he : e = x ∨ H e = some (.own x)) (k : ∀ b u, b ≠ e → s.heap.get? b = some u → h'.get? b = some u) (heo : ∃ u, h'.get? e = some u)
    (new : ObjOk X.prog X.w (upd H x o) h' x o) : Inv X pins σ (upd H x o) { s with heap := h', toks := t' } := I.un (Un.write mu he k heo) (I.hok.write mu he k heo new)
theorem Inv.pins_of {pins' : List (Addr × Obj)} (I : Inv X pins σ H s) (h : ∀ p ∈ pins', s.heap.get? p.1 = some p.2 ∧ H p.1 = none ∧ p.1 ≠ X.env.locals ∧ p.1 ∉ X.fs ∧ ∀ v, p.2.data ≠ .cell v) : Inv X pins' σ H s :=
  ⟨I.ok, I.os, I.bare, I.base, I.loc, I.cell, I.free, I.freeC, fun p hp => (List.mem_append.mp hp).elim (fun z => I.pin p (List.mem_append_left _ z)) (h p), I.hok, I.len⟩

theorem nodup_ix {N : List Str} (hN : N.Nodup) {i j : Nat} {x : Str} (a : N[i]? = some x) (b : N[j]? = some x) : i = j := by
  obtain ⟨h1, e1⟩ := List.getElem?_eq_some_iff.mp a
  obtain ⟨h2, e2⟩ := List.getElem?_eq_some_iff.mp b
  exact (List.getElem_inj hN).mp (e1.trans e2.symm)

/-- a name is stored; what changed -/
theorem store_ok2 {M : Model} {A : Around} {E : Value → Shared → Prop} {i : Nat} {x : Str} {v : V} {u : Value} {Q : Unit → Shared → Prop} (I : Inv X pins σ H s) (hN : X.N.Nodup) (hi : X.N[i]? = some x) (hx : Loc X.env.scope x) (r : RelV v u)
    (h : ∀ s', Inv X pins (σ.set i (some v)) H s' → (∃ a, Heap.SameBut a s.heap s'.heap ∧ (a = X.env.locals ∨ X.env.cells.lookup x = some a)) → Q () s') (hf : X.fn x = true ∨ X.env.scope.names.lookup x = some .local := by first | exact .inl rfl | exact .inr rfl | assumption) : wpAny M A (storeName X.env x u) Q E s := by
  obtain ⟨m, hn, hl⟩ := id I.loc
  have hcls : (X.env.scope.kind == .class || (X.env.scope.kind == .module && X.env.locals != X.env.globals)) = false := by rw [I.ok.kind]; rfl
  have hiσ : i < σ.length := by rw [I.len]; exact (List.getElem?_eq_some_iff.mp hi).1
  have cne := I.cne
  have tracked : ∀ {a : Addr} {h' : Heap}, (∃ o, s.heap.get? a = some o ∧ H a = none) → Heap.SameBut a s.heap h' → HOk X.prog X.w H h' := fun {a h'} ha hs b ob e => by
    obtain ⟨_, _, hfree⟩ := ha
    refine (I.hok b ob e).stay (fun c w' hc q => (hs.2 c ?_).trans q) (fun _ q => q) fun _ _ q => q
    rintro rfl
    rcases hc with rfl | hc
    · rw [hfree] at e; cases e
    · rw [hfree] at hc; cases hc
  rcases hx with hk | hk
  · refine wpAny_storeName_local hk hn (fun h' hn' hs => ?_) hcls
    obtain ⟨oL, _, _, hoL, _⟩ := id hn
    refine h _ ⟨I.ok, I.os, I.bare, ⟨fun b o e n hb hx => ?_, fun b o e n hb hx => ?_, I.base.free, fun b o e hx => ?_, I.base.tups, I.base.frzs, I.base.tbls⟩, ⟨_, hn', fun j y v' e1 e2 e3 => ?_⟩, fun y c e => ?_, I.free, I.freeC, fun p hp => ?_, tracked ⟨oL, hoL, I.free⟩ hs, by simpa using I.len⟩ ⟨_, hs, .inl rfl⟩
    · exact (hs.2 b (Nat.ne_of_lt (Nat.lt_of_lt_of_le (Heap.lt_size e) I.ok.above))).trans (I.base.keep b o e n hb hx)
    · obtain ⟨sl, e1⟩ := I.base.slot b o e n hb hx
      exact ⟨sl, (hs.2 b (Nat.ne_of_lt (Nat.lt_of_lt_of_le (Heap.lt_size e) I.ok.above))).trans e1⟩
    · obtain ⟨o', e1⟩ := I.base.there b o e hx
      exact ⟨o', (hs.2 b (Nat.ne_of_lt (Nat.lt_of_lt_of_le (Heap.lt_size e) I.ok.above))).trans e1⟩
    · by_cases hj : j = i
      · subst hj
        rw [hi] at e1; cases e1
        rw [List.getElem?_set_self hiσ] at e2
        cases e2
        exact ⟨u, r, .inl ⟨hk, by simp⟩⟩
      · rw [List.getElem?_set_ne (Ne.symm hj)] at e2
        obtain ⟨u', r', q⟩ := hl j y v' e1 e2 e3
        refine ⟨u', r', ?_⟩
        rcases q with ⟨k, e⟩ | ⟨k, c, e, z⟩
        · refine .inl ⟨k, ?_⟩
          have : y ≠ x := fun e => hj (nodup_ix hN e1 (e ▸ hi))
          simp [this, e]
        · exact .inr ⟨k, c, e, z.sameBut hs (cne y c e)⟩
    · obtain ⟨w', z⟩ := I.cell y c e
      exact ⟨w', z.sameBut hs (cne y c e)⟩
    · obtain ⟨e, n, ne, nf, d⟩ := I.pin p hp
      exact ⟨(hs.2 p.1 ne).trans e, n, ne, nf, d⟩
  · have hfn : X.fn x = true := by
      rcases hf with z | z
      · exact z
      · rw [z] at hk; cases hk
    obtain ⟨c, hc⟩ := I.ok.has x (.inl hk)
    obtain ⟨w', z⟩ := I.cell x c hc
    refine wpAny_storeName_cell I.ok.kind hk hc z (fun h' hc' hs => ?_)
    obtain ⟨oc, hoc, hocd⟩ := id z
    refine h { s with heap := h' } ⟨I.ok, I.os, I.bare, ⟨fun b o e n hb hx => ?_, fun b o e n hb hx => ?_, I.base.free, fun b o e hx => ?_, I.base.tups, I.base.frzs, I.base.tbls⟩, ⟨m, hn.sameBut hs (Ne.symm (cne x c hc)), fun j y v' e1 e2 e3 => ?_⟩, fun y c' e => ?_, I.free, I.freeC, fun p hp => ?_, tracked ⟨oc, hoc, I.freeC x c hc⟩ hs, by simpa using I.len⟩ ⟨c, hs, .inr hc⟩
    · exact (hs.2 b (Nat.ne_of_lt (Nat.lt_of_lt_of_le (Heap.lt_size e) (I.ok.cab x c hfn hc)))).trans (I.base.keep b o e n hb hx)
    · obtain ⟨sl, e1⟩ := I.base.slot b o e n hb hx
      exact ⟨sl, (hs.2 b (Nat.ne_of_lt (Nat.lt_of_lt_of_le (Heap.lt_size e) (I.ok.cab x c hfn hc)))).trans e1⟩
    · obtain ⟨o', e1⟩ := I.base.there b o e hx
      exact ⟨o', (hs.2 b (Nat.ne_of_lt (Nat.lt_of_lt_of_le (Heap.lt_size e) (I.ok.cab x c hfn hc)))).trans e1⟩
    · by_cases hj : j = i
      · subst hj
        rw [hi] at e1; cases e1
        rw [List.getElem?_set_self hiσ] at e2
        cases e2
        exact ⟨u, r, .inr ⟨.inl hk, c, hc, hc'⟩⟩
      · rw [List.getElem?_set_ne (Ne.symm hj)] at e2
        obtain ⟨u', r', q⟩ := hl j y v' e1 e2 e3
        refine ⟨u', r', ?_⟩
        rcases q with q | ⟨k, c', e, z'⟩
        · exact .inl q
        · refine .inr ⟨k, c', e, z'.sameBut hs ?_⟩
          rintro rfl
          exact hj (nodup_ix hN e1 (I.ok.inj _ _ _ e hc ▸ hi))
    · by_cases hcc : c' = c
      · subst hcc; exact ⟨_, hc'⟩
      · obtain ⟨w2, z2⟩ := I.cell y c' e
        exact ⟨w2, z2.sameBut hs hcc⟩
    · obtain ⟨e, n, ne, nf, d⟩ := I.pin p hp
      refine ⟨(hs.2 p.1 ?_).trans e, n, ne, nf, d⟩
      intro q
      rw [q, hoc] at e
      have q' : oc = p.2 := Option.some.inj e
      exact d w' (by rw [← q']; exact hocd)
theorem store_ok {M : Model} {A : Around} {E : Value → Shared → Prop} {i : Nat} {x : Str} {v : V} {u : Value} {Q : Unit → Shared → Prop} (I : Inv X pins σ H s) (hN : X.N.Nodup) (hi : X.N[i]? = some x) (hx : Loc X.env.scope x) (r : RelV v u)
    (h : ∀ s', Inv X pins (σ.set i (some v)) H s' → Q () s') (hf : X.fn x = true ∨ X.env.scope.names.lookup x = some .local := by first | exact .inl rfl | exact .inr rfl | assumption) : wpAny M A (storeName X.env x u) Q E s :=
  store_ok2 I hN hi hx r (fun s' I' _ => h s' I') hf
/-- behind a call or a block, the state as it is -/
theorem Inv.call' {s' : Shared} {ch : List Addr} (I : Inv X pins σ H s) (ho : s'.os = s.os) (u : Un (frs X.stack) ch H H' s.heap s'.heap) (hok : HOk X.prog X.w H' s'.heap) (hg : AllBare s'.gens)
    (hch : ∀ b ∈ ch, (b ∈ X.ex ∨ X.s₀.heap.objs.size ≤ b) ∧ b ≠ X.env.locals ∧ (∀ x c, X.env.cells.lookup x = some c → c ≠ b) ∧ ∀ p ∈ X.pn ++ pins, p.1 ≠ b) : Inv X pins σ H' s' := by
  obtain ⟨h', g', d', t', o'⟩ := s'
  have e : o' = s.os := ho
  subst e
  exact I.call (g' := g') (t' := t') (d' := d') u hok hg hch
end

/-! ### the judgements -/
/-- an exception: its class, its own dict's address (where it has one), the abstract heap behind it -/
abbrev XK := Value → Option Addr → Hp → Prop
abbrev St := List (Option V)
abbrev VK := V → Hp → Prop
/-- an expression's reading; a test's; an argument list's -/
abbrev TE := St → Hp → VK → Prop
abbrev TT := St → Hp → (Bool → Hp → Prop) → Prop
abbrev TA := St → Hp → (List V → Hp → Prop) → Prop
/-- what is wanted behind a statement -/
structure Ends where
  nx : St → Hp → Prop
  rt : VK
  bk : St → Hp → Prop := fun _ _ => False
  ct : St → Hp → Prop := fun _ _ => False
abbrev TS := Ends → St → Hp → Prop

def EP (X : Cx) (pins : List (Addr × Obj)) (σ : St) (Q : VK) (u : Value) (s' : Shared) : Prop := ∃ v H', Inv X pins σ H' s' ∧ RelV v u ∧ Q v H'
def TP (X : Cx) (pins : List (Addr × Obj)) (σ : St) (Q : Bool → Hp → Prop) (b : Bool) (s' : Shared) : Prop := ∃ H', Inv X pins σ H' s' ∧ Q b H'
def AP (X : Cx) (pins : List (Addr × Obj)) (σ : St) (Q : List V → Hp → Prop) (us : List Value) (s' : Shared) : Prop := ∃ vs H', Inv X pins σ H' s' ∧ Vals vs us ∧ Q vs H'
def SP (X : Cx) (pins : List (Addr × Obj)) (D : Ends) (f : Flow) (s' : Shared) : Prop :=
  match f with
  | .next => ∃ σ' H', Inv X pins σ' H' s' ∧ D.nx σ' H'
  | .brk => ∃ σ' H', Inv X pins σ' H' s' ∧ D.bk σ' H'
  | .cont => ∃ σ' H', Inv X pins σ' H' s' ∧ D.ct σ' H'
  | .ret u => ∃ v σ' H', Inv X pins σ' H' s' ∧ RelV v u ∧ D.rt v H'

def PE (X : Cx) (e : Expr) (t : TE) : Prop :=
  ∀ (pins : List (Addr × Obj)) (s : Shared) (σ : St) (H : Hp) (Q : VK), Inv X pins σ H s → t σ H Q → wpAny (model X.prog X.w) X.A (eval e X.env) (EP X pins σ Q) X.xe s
def PT (X : Cx) (e : Expr) (t : TT) : Prop :=
  ∀ (pins : List (Addr × Obj)) (s : Shared) (σ : St) (H : Hp) (Q : Bool → Hp → Prop), Inv X pins σ H s → t σ H Q → wpAny (model X.prog X.w) X.A (isTrue e X.env (eval e X.env)) (TP X pins σ Q) X.xe s
/-- a test whatever its 'whole' is (and, or) -/
def PW (X : Cx) (e : Expr) (t : TT) : Prop :=
  ∀ (whole : Sem Value) (pins : List (Addr × Obj)) (s : Shared) (σ : St) (H : Hp) (Q : Bool → Hp → Prop), Inv X pins σ H s → t σ H Q → wpAny (model X.prog X.w) X.A (isTrue e X.env whole) (TP X pins σ Q) X.xe s
theorem PW.pt {X : Cx} {e : Expr} {t : TT} (h : PW X e t) : PT X e t := h _
/-- an argument list (no star), from the left -/
def PA (X : Cx) (es : List Expr) (t : TA) : Prop :=
  ∀ (pos : Pos) (pins : List (Addr × Obj)) (s : Shared) (σ : St) (H : Hp) (Q : List V → Hp → Prop), Inv X pins σ H s → t σ H Q → wpAny (model X.prog X.w) X.A (spliced (backTo pos (starEach es X.env))) (AP X pins σ Q) X.xe s
def PS (X : Cx) (st : Stmt) (t : TS) : Prop :=
  ∀ (pins : List (Addr × Obj)) (s : Shared) (σ : St) (H : Hp) (D : Ends), Inv X pins σ H s → t D σ H → wpAny (model X.prog X.w) X.A (exec st X.env) (SP X pins D) X.xe s
def PSs (X : Cx) (st : List Stmt) (t : TS) : Prop :=
  ∀ (pins : List (Addr × Obj)) (s : Shared) (σ : St) (H : Hp) (D : Ends), Inv X pins σ H s → t D σ H → wpAny (model X.prog X.w) X.A (execs st X.env) (SP X pins D) X.xe s
/-- weaken the end -/
theorem thn {α : Type} {t : Sem α} {Q Q' : α → Shared → Prop} {M : Model} {A : Around} {E : Value → Shared → Prop} {s : Shared} (h : wpAny M A t Q E s) (hQ : ∀ a s, Q a s → Q' a s) : wpAny M A t Q' E s := wpAny_mono h hQ fun _ _ x => x
end L2

namespace L2
open PySem PySem.Spec PyProof.Rows
section
variable {X : Cx}

/-! ### names and constants -/
def tVar (i : Nat) : TE := fun σ H Q => ∃ v, σ[i]? = some (some v) ∧ Q v H
def tC (v : V) : TE := fun _ H Q => Q v H
theorem pe_var {i : Nat} {x : Str} {pos : Pos} (hN : X.N[i]? = some x) (hv : Vis X.env.scope x) (hd : (x == ("__debug__" : Str)) = false := by decide) (hcd : (x == ("__classdict__" : Str)) = false := by decide) : PE X (.Name x pos) (tVar i) := by
  intro pins s σ H Q I h
  obtain ⟨v, e, h⟩ := h
  obtain ⟨m, hn, hl⟩ := I.loc
  obtain ⟨u, r, l⟩ := hl i x v hN e hv
  have fin : EP X pins σ Q u s := ⟨v, H, I, r, h⟩
  rcases l with ⟨hk, hm⟩ | ⟨hk, c, hc, hcell⟩
  · exact wpAny_Name (wpAny_loadName_local I.ok.kind hk hn hm fin) hd
  · rcases hk with hk | hk
    · exact wpAny_Name (wpAny_loadName_cell I.ok.kind hk hc hcell fin) hd
    · exact wpAny_Name (wpAny_loadName_free I.ok.kind hk hc hcell fin hcd) hd
theorem pe_int {i j pos} : PE X (.Constant (.int i) j pos) (tC (.int i)) := fun _ _ _ H _ I h => wpAny_Constant_int ⟨.int i, H, I.tok _, ⟨_, rfl⟩, h⟩
theorem pe_bl {b j pos} : PE X (.Constant (.bool b) j pos) (tC (.bl b)) := fun _ _ _ H _ I h => Constant_bool ⟨.bl b, H, I, rfl, h⟩
theorem pe_non {j pos} : PE X (.Constant .none j pos) (tC .non) := fun _ _ _ H _ I h => Constant_none ⟨.non, H, I, rfl, h⟩
theorem pe_str {x j pos} : PE X (.Constant (.str x) j pos) (tC (.str x)) := fun _ _ _ H _ I h => Calls.Constant_str ⟨.str x, H, I.tok _, ⟨_, rfl⟩, h⟩

/-- a global name of the def -/
def Gl (X : Cx) (x : Str) : Prop := X.env.kindOf x = some .globalImplicit
theorem ld_glob {E : Value → Shared → Prop} {pins : List (Addr × Obj)} {s : Shared} {σ : St} {H : Hp} {x : Str} {u : Value} {pos : Pos} {Q : Value → Shared → Prop} (I : Inv X pins σ H s) (hg : Gl X x) (hm : X.mg x = some u) (h : Q u s)
    (hd : (x == ("__debug__" : Str)) = false := by decide) : wpAny (model X.prog X.w) X.A (eval (.Name x pos) X.env) Q E s :=
  Calls.Name_function_global I.ok.kind hg (Calls.loadGlobal_global (by rw [I.ok.glob]; exact I.mod.glob.keeps I.bk) hm h) hd
theorem ld_blt {E : Value → Shared → Prop} {pins : List (Addr × Obj)} {s : Shared} {σ : St} {H : Hp} {x : Str} {u : Value} {pos : Pos} {Q : Value → Shared → Prop} (I : Inv X pins σ H s) (hg : Gl X x) (hm : X.mg x = none) (hv : bootBuiltins x = some u) (h : Q u s)
    (hn : x ≠ "__name__" := by decide) (hd : (x == ("__debug__" : Str)) = false := by decide) : wpAny (model X.prog X.w) X.A (eval (.Name x pos) X.env) Q E s := by
  obtain ⟨mb, h1, h2⟩ := I.mod.blt
  exact Calls.Name_function_global I.ok.kind hg (Calls.loadGlobal_builtin (by rw [I.ok.glob]; exact I.mod.glob.keeps I.bk) hm (by rw [I.ok.blt]; exact h1.keeps I.bk) ((h2 x hn).trans hv) h) hd
/-- a module's constant, a class, a function, as a value -/
theorem pe_glob {x : Str} {v : V} {u : Value} {pos : Pos} (hg : Gl X x) (hm : X.mg x = some u) (r : RelV v u) (hd : (x == ("__debug__" : Str)) = false := by decide) : PE X (.Name x pos) (tC v) :=
  fun _ _ _ H _ I h => ld_glob I hg hm ⟨v, H, I, r, h⟩ hd
theorem pe_bltn {x : Str} {v : V} {u : Value} {pos : Pos} (hg : Gl X x) (hm : X.mg x = none) (hv : bootBuiltins x = some u) (r : RelV v u) (hn : x ≠ "__name__" := by decide) (hd : (x == ("__debug__" : Str)) = false := by decide) : PE X (.Name x pos) (tC v) :=
  fun _ _ _ H _ I h => ld_blt I hg hm hv ⟨v, H, I, r, h⟩ hn hd

/-! ### arithmetic -/
variable {a b : Expr} {ta tb : TE} {pos : Pos}
/-! ### comparisons -/
/-- a comparison as a value, as a test -/
def tB (t : TE) : TT := fun σ H Q => t σ H fun x H1 => ∃ c, x = .bl c ∧ Q c H1
/-- an expression whose value is a bool, as a test -/
theorem pt_val {e : Expr} {t : TE} (h : PE X e t) (he : ∀ whole, isTrue e X.env whole = (do let v ← whole; standAt e.pos; holding [v] (truthy v)) := by intro _; rfl) : PT X e (tB t) := by
  intro pins s σ H Q I hw
  refine isTrue_plain (thn (h pins s σ H _ I hw) fun v s1 ⟨x, H1, I1, r1, q1⟩ => ?_) (he _)
  obtain ⟨d, rfl, q⟩ := q1
  cases r1
  exact wpAny_truthy_bool ⟨H1, I1, q⟩

/-! ### and, or, not -/
variable {tA tB' : TT} {rest : List Expr}
def tAnd (t u : TT) : TT := fun σ H Q => t σ H fun c H1 => if c = true then u σ H1 Q else Q false H1
def tOr (t u : TT) : TT := fun σ H Q => t σ H fun c H1 => if c = true then Q true H1 else u σ H1 Q
def tNot (t : TT) : TT := fun σ H Q => t σ H fun c H1 => Q (!c) H1
theorem pw_and1 (ha : PT X a tA) : PW X (.BoolOp .And [a] pos) tA := by
  intro wh pins s σ H Q I h
  refine isTrue_and (thn (ha pins s σ H Q I h) fun c s1 e => ?_)
  cases c with
  | true => exact isTrue_and_nil e
  | false => exact e
theorem pw_or1 (ha : PT X a tA) : PW X (.BoolOp .Or [a] pos) tA := by
  intro wh pins s σ H Q I h
  refine isTrue_or (thn (ha pins s σ H Q I h) fun c s1 e => ?_)
  cases c with
  | false => exact isTrue_or_nil e
  | true => exact e
theorem pw_and (ha : PT X a tA) (hb : PW X (.BoolOp .And (b :: rest) pos) tB') : PW X (.BoolOp .And (a :: b :: rest) pos) (tAnd tA tB') := by
  intro wh pins s σ H Q I h
  refine isTrue_and (thn (ha pins s σ H _ I h) fun c s1 ⟨H1, I1, q1⟩ => ?_)
  cases c with
  | true => exact hb wh pins s1 σ H1 Q I1 q1
  | false => exact ⟨H1, I1, q1⟩
theorem pw_or (ha : PT X a tA) (hb : PW X (.BoolOp .Or (b :: rest) pos) tB') : PW X (.BoolOp .Or (a :: b :: rest) pos) (tOr tA tB') := by
  intro wh pins s σ H Q I h
  refine isTrue_or (thn (ha pins s σ H _ I h) fun c s1 ⟨H1, I1, q1⟩ => ?_)
  cases c with
  | true => exact ⟨H1, I1, q1⟩
  | false => exact hb wh pins s1 σ H1 Q I1 q1
theorem pt_not (ha : PT X a tA) : PT X (.UnaryOp .Not a pos) (tNot tA) := by
  intro pins s σ H Q I h
  exact isTrue_not (ha pins s σ H (fun c H1 => Q (!c) H1) I h)
/-- .. as values (bools) -/
def tAndV (ta tb : TE) : TE := fun σ H Q => ta σ H fun x H1 => ∃ c, x = .bl c ∧ if c = true then tb σ H1 Q else Q (.bl false) H1
def tNotV (ta : TE) : TE := fun σ H Q => ta σ H fun x H1 => ∃ c, x = .bl c ∧ Q (.bl (!c)) H1
theorem pe_one {op} {t : TE} (h : PE X a t) : PE X (.BoolOp op [a] pos) t := fun pins s σ H Q I hw => BoolOp_one (h pins s σ H Q I hw)
theorem pe_and (ha : PE X a ta) (hb : PE X (.BoolOp .And (b :: rest) pos) tb) : PE X (.BoolOp .And (a :: b :: rest) pos) (tAndV ta tb) := by
  intro pins s σ H Q I h
  refine BoolOp_and (thn (ha pins s σ H _ I h) fun v s1 ⟨x, H1, I1, r1, q1⟩ => ?_)
  obtain ⟨c, rfl, q1⟩ := q1
  cases r1
  refine wpAny_truthy_bool ?_
  cases c with
  | true => exact hb pins s1 σ H1 Q I1 q1
  | false => exact ⟨.bl false, H1, I1, rfl, q1⟩
theorem pe_not (ha : PE X a ta) : PE X (.UnaryOp .Not a pos) (tNotV ta) := by
  intro pins s σ H Q I h
  refine UnaryOp_ (thn (ha pins s σ H _ I h) fun v s1 ⟨x, H1, I1, r1, q1⟩ => ?_)
  obtain ⟨c, rfl, q1⟩ := q1
  cases r1
  exact not_of (wpAny_truthy_bool ⟨.bl (!c), H1, I1, rfl, q1⟩)
/-- a if t else b -/
def tIf (t : TT) (ta tb : TE) : TE := fun σ H Q => t σ H fun c H1 => if c = true then ta σ H1 Q else tb σ H1 Q
theorem pe_ifExp {c : Expr} (hc : PT X c tA) (ha : PE X a ta) (hb : PE X b tb) : PE X (.IfExp c a b pos) (tIf tA ta tb) := by
  intro pins s σ H Q I h
  refine wpAny_IfExp (thn (hc pins s σ H _ I h) fun d s1 ⟨H1, I1, q1⟩ => ?_)
  cases d with
  | true => exact ha pins s1 σ H1 Q I1 q1
  | false => exact hb pins s1 σ H1 Q I1 q1
end
end L2

namespace L2
open PySem PySem.Spec PyProof.Rows

/-! ### a list, a tuple that is read: tracked, frozen, or an object of the module -/
def SqL (K : PySem.W.Frag) (H : Hp) (a : Addr) (xs : List V) : Prop :=
  Rd H a (.lst xs) ∨
    ∃ (o : Obj) (its : Array Value) (n : Nat), K.lookup a = some o ∧ o.cls = .type "list" ∧ o.dict = none ∧ o.data = .seq its n ∧ its.size ≤ sizeLine ∧ Vals xs its.toList
def SqT (K : PySem.W.Frag) (H : Hp) (a : Addr) (xs : List V) : Prop :=
  Rd H a (.tup xs) ∨
    ∃ (o : Obj) (its : Array Value) (n : Nat), K.lookup a = some o ∧ o.cls = .type "tuple" ∧ o.data = .seq its n ∧ its.size ≤ sizeLine ∧ Vals xs its.toList
def absV : Value → Option V
  | .none => some .non
  | .bool b => some (.bl b)
  | .int i _ => some (.int i)
  | .str x _ => some (.str x)
  | .bytes b _ => some (.byt b)
  | .float b _ => some (.flt b)
  | .ref a => some (.ref a)
  | .type n => some (.ty n)
  | _ => none
theorem RelV.abs {x : V} {u : Value} (r : RelV x u) : absV u = some x := by
  cases x with
  | non => cases r; rfl
  | bl _ => cases r; rfl
  | int _ => obtain ⟨t, rfl⟩ := r; rfl
  | str _ => obtain ⟨t, rfl⟩ := r; rfl
  | byt _ => obtain ⟨t, rfl⟩ := r; rfl
  | flt _ => obtain ⟨t, rfl⟩ := r; rfl
  | ref _ => cases r; rfl
  | ty _ => cases r; rfl
theorem RelV.inj {x y : V} {u : Value} (r : RelV x u) (q : RelV y u) : x = y := Option.some.inj (r.abs.symm.trans q.abs)
theorem Vals.inj : ∀ {xs ys : List V} {us : List Value}, Vals xs us → Vals ys us → xs = ys
  | _, _, _, .nil, .nil => rfl
  | _, _, _, .cons r t, .cons r' t' => by rw [r.inj r', Vals.inj t t']
section
variable {X : Cx} {pins : List (Addr × Obj)} {σ : St} {H : Hp} {s : Shared} {a : Addr} {xs ys : List V}
theorem SqL.of {K : PySem.W.Frag} (h : H a = some (.lst xs)) : SqL K H a xs := .inl (.inl h)
theorem SqT.of {K : PySem.W.Frag} (h : H a = some (.tup xs)) : SqT K H a xs := .inl (.inl h)
theorem Inv.list (I : Inv X pins σ H s) (h : SqL X.K H a xs) : ∃ its : List Value, Vals xs its ∧ PlainL s.heap a its.toArray ∧ xs.length ≤ sizeLine := by
  rcases h with h | ⟨o, its, n, hk, hc, hd, hs, hz, r⟩
  · obtain ⟨z, its, n, r, e⟩ := h.ok I.hok
    exact ⟨its, r, ⟨_, n, e, rfl, rfl, rfl⟩, z⟩
  · refine ⟨its.toList, r, ⟨o, n, I.kIn a o hk, hc, hd, by simpa using hs⟩, ?_⟩
    have e := r.length
    simp only [Array.length_toList] at e
    omega
theorem Inv.tuple (I : Inv X pins σ H s) (h : SqT X.K H a xs) : ∃ its : List Value, Vals xs its ∧ IsTup s.heap a its.toArray ∧ xs.length ≤ sizeLine := by
  rcases h with h | ⟨o, its, n, hk, hc, hs, hz, r⟩
  · obtain ⟨z, its, r, p⟩ := h.ok I.hok
    exact ⟨its, r, p, z⟩
  · refine ⟨its.toList, r, ⟨o, I.kIn a o hk, hc, n, by simpa using hs⟩, ?_⟩
    have e := r.length
    simp only [Array.length_toList] at e
    omega
theorem Inv.list_inj (I : Inv X pins σ H s) (h : SqL X.K H a xs) (h' : SqL X.K H a ys) : xs = ys := by
  obtain ⟨its, r, ⟨o, n, e, _, _, d⟩, _⟩ := I.list h
  obtain ⟨its', r', ⟨o', n', e', _, _, d'⟩, _⟩ := I.list h'
  rw [e] at e'; cases e'
  rw [d] at d'
  injection d' with d1 _
  have : its = its' := by simpa using congrArg Array.toList d1
  subst this
  exact r.inj r'
end

/-! ### another wish about exceptions -/
abbrev Cx.wish (X : Cx) (E : Value → Shared → Prop) : Cx := { X with xe := E }
/-- no exception leaves -/
abbrev Cx.nox (X : Cx) : Cx := X.wish fun _ _ => False
theorem Cx.Ok.wish {X : Cx} (ok : X.Ok) (E : Value → Shared → Prop) : (X.wish E).Ok :=
  ⟨ok.mod, ok.kind, ok.glob, ok.blt, ok.above, ok.inj, ok.has, ok.cab, ok.hd, ok.frames, ok.stk, ok.exf, ok.bs, ok.bsz, ok.noex, ok.exfs, ok.funs, ok.frf⟩
theorem Cx.Ok.unwish {X : Cx} {E : Value → Shared → Prop} (ok : (X.wish E).Ok) : X.Ok :=
  ⟨ok.mod, ok.kind, ok.glob, ok.blt, ok.above, ok.inj, ok.has, ok.cab, ok.hd, ok.frames, ok.stk, ok.exf, ok.bs, ok.bsz, ok.noex, ok.exfs, ok.funs, ok.frf⟩
section
variable {X : Cx} {pins : List (Addr × Obj)} {σ : St} {H : Hp} {s : Shared} {E : Value → Shared → Prop}
theorem Inv.wish (I : Inv X pins σ H s) (E : Value → Shared → Prop) : Inv (X.wish E) pins σ H s := ⟨I.ok.wish E, I.os, I.bare, I.base, I.loc, I.cell, I.free, I.freeC, I.pin, I.hok, I.len⟩
theorem Inv.unwish (I : Inv (X.wish E) pins σ H s) : Inv X pins σ H s := ⟨I.ok.unwish, I.os, I.bare, I.base, I.loc, I.cell, I.free, I.freeC, I.pin, I.hok, I.len⟩
theorem SP.unwish {D : Ends} {f : Flow} {s' : Shared} (h : SP (X.wish E) pins D f s') : SP X pins D f s' := by
  cases f with
  | next => obtain ⟨σ', H', I, q⟩ := h; exact ⟨σ', H', I.unwish, q⟩
  | brk => obtain ⟨σ', H', I, q⟩ := h; exact ⟨σ', H', I.unwish, q⟩
  | cont => obtain ⟨σ', H', I, q⟩ := h; exact ⟨σ', H', I.unwish, q⟩
  | ret u => obtain ⟨v, σ', H', I, r, q⟩ := h; exact ⟨v, σ', H', I.unwish, r, q⟩
theorem PE.nox {e : Expr} {t : TE} (h : PE X.nox e t) : PE X e t := fun pins s σ H Q I hw =>
  wpAny_mono (h pins s σ H Q (I.wish _) hw) (fun _ _ ⟨v, H', I', r, q⟩ => ⟨v, H', I'.unwish, r, q⟩) fun _ _ z => False.elim z
theorem PT.nox {e : Expr} {t : TT} (h : PT X.nox e t) : PT X e t := fun pins s σ H Q I hw =>
  wpAny_mono (h pins s σ H Q (I.wish _) hw) (fun _ _ ⟨H', I', q⟩ => ⟨H', I'.unwish, q⟩) fun _ _ z => False.elim z
theorem PSs.nox {st : List Stmt} {t : TS} (h : PSs X.nox st t) : PSs X st t := fun pins s σ H D I hw =>
  wpAny_mono (h pins s σ H D (I.wish _) hw) (fun _ _ q => q.unwish) fun _ _ z => False.elim z
end

/-! ### blocks and small statements -/
section
variable {X : Cx} {st : Stmt} {rest : List Stmt} {t u : TS} {e : Expr} {te : TE} {pos : Pos}
def tNext : TS := fun D σ H => D.nx σ H
def tSeq (t u : TS) : TS := fun D σ H => t { D with nx := u D } σ H
theorem pss_nil : PSs X [] tNext := fun _ _ σ H _ I h => wpAny_execs_nil ⟨σ, H, I, h⟩
theorem pss_cons (h1 : PS X st t) (h2 : PSs X rest u) : PSs X (st :: rest) (tSeq t u) := by
  intro pins s σ H D I h
  refine wpAny_execs_cons (thn (h1 pins s σ H { D with nx := u D } I h) fun f s1 q => ?_)
  cases f with
  | next =>
    obtain ⟨σ', H', I', q⟩ := q
    exact h2 pins s1 σ' H' D I' q
  | ret v => exact q
  | brk => exact q
  | cont => exact q
theorem pss_one (h1 : PS X st t) : PSs X [st] t := by
  intro pins s σ H D I h
  refine wpAny_execs_cons (thn (h1 pins s σ H D I h) fun f s1 q => ?_)
  cases f with
  | next => exact wpAny_execs_nil q
  | ret v => exact q
  | brk => exact q
  | cont => exact q
/-- in a def's body nothing is shown -/
theorem Inv.quiet {pins : List (Addr × Obj)} {σ : St} {H : Hp} {s : Shared} (I : Inv X pins σ H s) : interactive X.env = false := by simp [interactive, I.ok.kind]
/-- an expression whose value is dropped -/
def tDrop (te : TE) : TS := fun D σ H => te σ H fun _ H1 => D.nx σ H1
theorem ps_expr (he : PE X e te) (hs : swapsWith e none pos.line X.env = pure false := by rfl) : PS X (.Expr e pos) (tDrop te) := by
  intro pins s σ H D I h
  exact wpAny_Expr_any (thn (he pins s σ H _ I h) fun v s1 ⟨x, H1, I1, r1, q1⟩ => ⟨σ, H1, I1, q1⟩) I.quiet hs
def tRet (te : TE) : TS := fun D σ H => te σ H D.rt
theorem ps_ret (he : PE X e te) : PS X (.Return (some e) pos) (tRet te) := by
  intro pins s σ H D I h
  exact wpAny_Return_some (thn (he pins s σ H _ I h) fun v s1 ⟨x, H1, I1, r1, q1⟩ => ⟨x, σ, H1, I1, r1, q1⟩)
def tIfS (c : TT) (t u : TS) : TS := fun D σ H => c σ H fun b H1 => if b = true then t D σ H1 else u D σ H1
theorem ps_if {c : Expr} {a b : List Stmt} {tc : TT} (hc : PT X c tc) (ha : PSs X a t) (hb : PSs X b u) : PS X (.If c a b pos) (tIfS tc t u) := by
  intro pins s σ H D I h
  refine wpAny_If (thn (hc pins s σ H _ I h) fun d s1 ⟨H1, I1, q1⟩ => ?_)
  cases d with
  | true => exact ha pins s1 σ H1 D I1 q1
  | false => exact hb pins s1 σ H1 D I1 q1
/-- code that the proof never comes to -/
def tNever : TS := fun _ _ _ => False
theorem ps_never : PS X st tNever := fun _ _ _ _ _ _ h => h.elim
theorem pss_never {sts : List Stmt} : PSs X sts tNever := fun _ _ _ _ _ _ h => h.elim
end

/-! ### targets -/
abbrev TG := V → St → Hp → (St → Hp → Prop) → Prop
abbrev TGs := List V → St → Hp → (St → Hp → Prop) → Prop
def PG (X : Cx) (target : Expr) (t : TG) : Prop :=
  ∀ (pins : List (Addr × Obj)) (s : Shared) (σ : St) (H : Hp) (v : V) (u : Value) (Q : St → Hp → Prop), Inv X pins σ H s → RelV v u → t v σ H Q →
    wpAny (model X.prog X.w) X.A (assign target X.env u) (fun _ s' => ∃ σ' H', Inv X pins σ' H' s' ∧ Q σ' H') X.xe s
/-- several targets, one after another -/
def PGs (X : Cx) (ts : List Expr) (t : TGs) : Prop :=
  ∀ (pins : List (Addr × Obj)) (s : Shared) (σ : St) (H : Hp) (vs : List V) (us : List Value) (Q : St → Hp → Prop), Inv X pins σ H s → Vals vs us → t vs σ H Q →
    wpAny (model X.prog X.w) X.A (assignInOrder ((assignEach ts X.env).map (·.2)) us) (fun _ s' => ∃ σ' H', Inv X pins σ' H' s' ∧ Q σ' H') X.xe s
section
variable {X : Cx} {pos : Pos}
def gName (i : Nat) : TG := fun v σ H Q => Q (σ.set i (some v)) H
theorem pg_name {i : Nat} {x : Str} (hN : X.N.Nodup) (hi : X.N[i]? = some x) (hx : Loc X.env.scope x) (hf : X.fn x = true ∨ X.env.scope.names.lookup x = some .local := by first | exact .inl rfl | exact .inr rfl | assumption) : PG X (.Name x pos) (gName i) := by
  intro pins s σ H v u Q I r h
  exact wpAny_assign_Name (store_ok I hN hi hx r (fun s' I' => ⟨_, H, I', h⟩) hf)
def gNil : TGs := fun vs σ H Q => vs = [] ∧ Q σ H
def gCons (t : TG) (u : TGs) : TGs := fun vs σ H Q => ∃ v r, vs = v :: r ∧ t v σ H fun σ' H' => u r σ' H' Q
theorem pgs_nil : PGs X [] gNil := by
  intro pins s σ H vs us Q I r h
  obtain ⟨e, h⟩ := h
  subst e
  cases r
  exact assignInOrder_nil ⟨σ, H, I, h⟩
theorem pgs_cons {e : Expr} {es : List Expr} {t : TG} {u : TGs} (h1 : PG X e t) (h2 : PGs X es u)
    (hs : (assignEach (e :: es) X.env).map (·.2) = assign e X.env :: (assignEach es X.env).map (·.2) := by rfl) : PGs X (e :: es) (gCons t u) := by
  intro pins s σ H vs us Q I r h
  obtain ⟨v, vr, e1, h⟩ := h
  subst e1
  cases r with
  | cons r rr =>
    rw [hs]
    refine assignInOrder_cons (thn (h1 pins s σ H _ _ _ I r h) fun _ s1 ⟨σ1, H1, I1, q1⟩ => ?_)
    exact h2 pins s1 σ1 H1 _ _ Q I1 rr q1
/-- (a, b, ..) = a tuple of that length -/
def gTup (K : PySem.W.Frag) (n : Nat) (t : TGs) : TG := fun v σ H Q => ∃ a xs, v = .ref a ∧ SqT K H a xs ∧ xs.length = n ∧ t xs σ H Q
theorem pg_tup {es : List Expr} {k : Nat} {t : TGs} {n : Nat} (hc : X.calm = true) (h : PGs X es t)
    (hn : (assignEach es X.env).length = n := by rfl) (hst : (assignEach es X.env).findIdx? (·.1) = none := by rfl) : PG X (.Tuple es k pos) (gTup X.K n t) := by
  intro pins s σ H v u Q I r hw
  obtain ⟨a, xs, e1, hq, hl, hw⟩ := hw
  subst e1
  cases r
  obtain ⟨its, rv, ht, hz⟩ := I.tuple hq
  refine assign_Tuple_tuple (I.ok.hd hc) ht (by simp [hn, ← hl, rv.length]) hst fun h' hx => ?_
  have I1 : Inv X pins σ H { s with heap := h' } := I.kept (t' := s.toks) fun b o e => hx b o (Nat.ne_of_lt (Heap.lt_size e)) e
  exact h pins _ σ H xs _ Q I1 (by simpa using rv) hw
/-- target = value -/
def tAsg (te : TE) (g : TG) : TS := fun D σ H => te σ H fun x H1 => g x σ H1 D.nx
/-- name = value -/
theorem ps_set {i : Nat} {x : Str} {e : Expr} {te : TE} {pos' : Pos} (hN : X.N.Nodup) (hi : X.N[i]? = some x) (hx : Loc X.env.scope x) (he : PE X e te) (hs : swapsWith e (some (.Name x pos')) pos.line X.env = pure false := by rfl) (hf : X.fn x = true ∨ X.env.scope.names.lookup x = some .local := by first | exact .inl rfl | exact .inr rfl | assumption) :
    PS X (.Assign [.Name x pos'] e pos) (tAsg te (gName i)) := by
  intro pins s σ H D I h
  refine wpAny_Assign_Name (thn (he pins s σ H _ I h) fun v s1 ⟨y, H1, I1, r1, q1⟩ => ?_) hs
  exact store_ok I1 hN hi hx r1 (fun s2 I2 => ⟨_, H1, I2, q1⟩) hf
end

/-! ### while -/
section
variable {X : Cx} {pos : Pos}
end

/-! ### what a loop or a comprehension walks -/
/-- at turn i: it yields x (the heap may grow), or it stops -/
structure It where
  go : Nat → Hp → Prop
  yld : Nat → Hp → V → Hp → Prop
  stop : Nat → Hp → Prop
/-- the iterator's own objects may turn: they are not the frame's, not pinned, younger than the entry (or a comprehension's own) -/
def FpOk (X : Cx) (pins : List (Addr × Obj)) (H : Hp) (b : Addr) : Prop :=
  H b = none ∧ b ≠ X.env.locals ∧ b ∉ X.fs ∧ (b ∈ X.ex ∨ X.s₀.heap.objs.size ≤ b) ∧ (∀ x c, X.env.cells.lookup x = some c → c ≠ b) ∧ ∀ p ∈ X.pn ++ pins, p.1 ≠ b
theorem Inv.fpOk {X : Cx} {pins : List (Addr × Obj)} {σ : St} {H H' : Hp} {s : Shared} {b : Addr} (I : Inv X pins σ H s) (hb : s.heap.objs.size ≤ b) (hn : H' b = none) : FpOk X pins H' b := by
  refine ⟨hn, Nat.ne_of_gt (Nat.lt_of_lt_of_le I.lt hb), I.nofs hb, .inr (Nat.le_trans I.sz hb), fun x c e z => ?_, fun p hp z => ?_⟩
  · obtain ⟨v, q⟩ := I.cell x c e
    exact absurd (Nat.lt_of_lt_of_le q.lt (by rw [z]; exact hb)) (Nat.lt_irrefl _)
  · exact absurd (Nat.lt_of_lt_of_le (Heap.lt_size (I.pin p hp).1) (by rw [z]; exact hb)) (Nat.lt_irrefl _)
structure Turn (P : Program) (w : World) (K : PySem.W.Frag) (tg : Expr) (J : It) (fp : List Addr) (it : Addr) (tn : Nat → Heap → Prop) : Prop where
  mem : it ∈ fp
  obj : ∀ i h, tn i h → ∀ b ∈ fp, ∃ o, h.get? b = some o ∧ ∀ v, o.data ≠ .cell v
  keep : ∀ i h h', tn i h → (∀ b ∈ fp, ∀ o, h.get? b = some o → h'.get? b = some o) → tn i h'
  item : ∀ (X : Cx), X.prog = P → X.w = w → X.K = K → X.calm = true → ∀ (i : Nat) (pins : List (Addr × Obj)) (s : Shared) (σ : St) (H : Hp) (E : Value → Shared → Prop), Inv X pins σ H s → (∀ b ∈ fp, FpOk X pins H b) → tn i s.heap → J.go i H →
    wpAny (model P w) X.A (pyNext (.ref it)) (fun r s1 => ∃ u, r = some u ∧
      wpAny (model P w) X.A (letOwnedTupleGo tg (.ref it) u) (fun _ s2 => ∃ x H', Inv X pins σ H' s2 ∧ RelV x u ∧ J.yld i H x H' ∧ tn (i + 1) s2.heap ∧ ∀ b ∈ fp, H' b = none) E s1) E s
  done : ∀ (X : Cx), X.prog = P → X.w = w → X.K = K → X.calm = true → ∀ (i : Nat) (pins : List (Addr × Obj)) (s : Shared) (σ : St) (H : Hp) (E : Value → Shared → Prop), Inv X pins σ H s → (∀ b ∈ fp, FpOk X pins H b) → tn i s.heap → J.stop i H →
    wpAny (model P w) X.A (pyNext (.ref it)) (fun r s1 => r = none ∧ Inv X pins σ H s1) E s
  self : ∀ (A : Around) (i : Nat) (s : Shared) (Q : Value → Shared → Prop) (E : Value → Shared → Prop), tn i s.heap → Q (.ref it) s → wpAny (model P w) A (pyIter (.ref it)) Q E s
abbrev TI := St → Hp → (It → Hp → Prop) → Prop
/-- an iterator has come -/
def PIE (X : Cx) (pins : List (Addr × Obj)) (σ : St) (tg : Expr) (R : It → Hp → Prop) (itv : Value) (s2 : Shared) : Prop :=
  ∃ (it : Addr) (fp : List Addr) (tn : Nat → Heap → Prop) (J : It) (H' : Hp), itv = .ref it ∧ Inv X pins σ H' s2 ∧ Turn X.prog X.w X.K tg J fp it tn ∧ tn 0 s2.heap ∧ (∀ b ∈ fp, FpOk X pins H' b) ∧ R J H'
def PI (X : Cx) (tg iter : Expr) (wi : TI) : Prop :=
  ∀ (pins : List (Addr × Obj)) (s : Shared) (σ : St) (H : Hp) (R : It → Hp → Prop), Inv X pins σ H s → wi σ H R →
    wpAny (model X.prog X.w) X.A (eval iter X.env) (fun v s1 => wpAny (model X.prog X.w) X.A (pyIter v) (PIE X pins σ tg R) X.xe s1) X.xe s

/-- the step ahead of the store is nothing for an iterator that keeps no tuple -/
theorem go_of {M : Model} {A : Around} {E : Value → Shared → Prop} {s : Shared} {tg : Expr} {it : Addr} {u : Value} {o : Obj} {n : String} {vs : Array Value} {Q : Unit → Shared → Prop} (ho : s.heap.get? it = some o) (hc : o.cls = .type n) (hd : o.data = .fields vs)
    (hn : ["enumerate", "zip", "dict_itemiterator", "dict_reverseitemiterator", "odict_iterator", "itertools.zip_longest", "itertools.pairwise"].contains n = false) (hQ : Q () s) : wpAny M A (letOwnedTupleGo tg (.ref it) u) Q E s := by
  unfold letOwnedTupleGo
  cases tg <;> first
    | exact wpAny_pure hQ
    | (cases u <;> first
        | exact wpAny_pure hQ
        | (refine wpAny_bind (wpAny_load ho ?_)
           rw [hc, hd]
           show wpAny M A (if (["enumerate", "zip", "dict_itemiterator", "dict_reverseitemiterator", "odict_iterator", "itertools.zip_longest", "itertools.pairwise"].contains n && vs[0]? == some (rawInt _)) = true then _ else _) Q E s
           rw [if_neg (by intro h; rw [hn, Bool.false_and] at h; cases h)]
           exact wpAny_pure hQ))

/-- the list at a, as it stands at each turn (a loop may append to it) -/
def Itl (K : PySem.W.Frag) (a : Addr) : It :=
  ⟨fun i H => ∃ xs x, SqL K H a xs ∧ xs[i]? = some x, fun i H x H' => H' = H ∧ ∀ xs, SqL K H a xs → xs[i]? = some x, fun i H => ∃ xs, SqL K H a xs ∧ xs.length ≤ i⟩
/-- lo, lo + 1, .. (n of them) -/
def Itr (lo : Int) (n : Nat) : It := ⟨fun i _ => i < n, fun i H x H' => H' = H ∧ x = .int (lo + i), fun i _ => n ≤ i⟩
theorem turn_list {P : Program} {w : World} {K : PySem.W.Frag} {tg : Expr} (a it : Addr) : Turn P w K tg (Itl K a) [it] it (fun i h => h.IsListIter it a i) where
  mem := by simp
  obj := fun i h st b hb => by
    have e : b = it := by simpa using hb
    subst e
    obtain ⟨o, e, c, d⟩ := st
    exact ⟨o, e, fun v z => by rw [d] at z; cases z⟩
  keep := fun i h h' st k => st.at fun o e => k it (by simp) o e
  item := by
    intro X hP hw hK hc i pins s σ H E I hf st hg
    subst hP hw hK
    obtain ⟨xs, x, hq, hx⟩ := hg
    obtain ⟨its, rv, p, hz⟩ := I.list hq
    obtain ⟨u, hu, ru⟩ := rv.get hx
    obtain ⟨f0, f1, f2, f3, f4, f5⟩ := hf it (by simp)
    refine wpAny_pyNext_list_item st p.isList (x := u) (by simpa using hu) fun h' st' sb => ?_
    have I1 : Inv X pins σ H { s with heap := h' } := I.turned (t' := s.toks) (fun b o hb e => (sb.2 b hb).trans e) f0 f1 f3 f4 f5
    obtain ⟨o, e, c, d⟩ := id st'
    exact ⟨u, rfl, go_of (s := { s with heap := h' }) e c d (by decide) ⟨x, H, I1, ru, ⟨rfl, fun ys hy => by rw [I.list_inj hy hq]; exact hx⟩, st', fun b hb => (hf b hb).1⟩⟩
  done := by
    intro X hP hw hK hc i pins s σ H E I hf st hg
    subst hP hw hK
    obtain ⟨xs, hq, hx⟩ := hg
    obtain ⟨its, rv, p, hz⟩ := I.list hq
    obtain ⟨f0, f1, f2, f3, f4, f5⟩ := hf it (by simp)
    have hl := rv.length
    exact wpAny_pyNext_list_end (I.ok.hd hc) st p.isList (by simp; omega) fun h' eb => ⟨rfl, I.turned (t' := s.toks) (fun b o hb e => eb b o hb e) f0 f1 f3 f4 f5⟩
  self := fun _ _ _ _ _ st h => wpAny_pyIter_listiter st h
theorem turn_range {P : Program} {w : World} {K : PySem.W.Frag} {tg : Expr} (it : Addr) (lo : Int) (n : Nat) : Turn P w K tg (Itr lo n) [it] it (fun i h => IsRangeIter h it (lo + (i : Nat) * 1) ((n : Int) - (i : Nat)) 1) where
  mem := by simp
  obj := fun i h st b hb => by
    have e : b = it := by simpa using hb
    subst e
    exact ⟨_, st, fun v z => by
      have z' : Data.fields _ = Data.cell v := z
      cases z'⟩
  keep := fun i h h' st k => k it (by simp) _ st
  item := by
    intro X hP hw hK hc i pins s σ H E I hf st hg
    subst hP hw hK
    obtain ⟨f0, f1, f2, f3, f4, f5⟩ := hf it (by simp)
    have W := Walks.range (prog := X.prog) (w := X.w) (I.ok.hd hc) it lo 1 n
    refine W.item i s _ _ hg st fun v h' tk hv st' kk => ?_
    obtain ⟨t, rfl⟩ := hv
    have I1 : Inv X pins σ H { s with heap := h', toks := tk } := I.turned (fun b o hb e => kk b o (by simpa using hb) e) f0 f1 f3 f4 f5
    refine ⟨_, rfl, go_of (s := { s with heap := h', toks := tk }) (n := "range_iterator") st' rfl rfl (by decide) ⟨.int (lo + i), H, I1, ⟨t, ?_⟩, ⟨rfl, rfl⟩, st', fun b hb => (hf b hb).1⟩⟩
    rw [Int.mul_one]
  done := by
    intro X hP hw hK hc i pins s σ H E I hf st hg
    subst hP hw hK
    obtain ⟨f0, f1, f2, f3, f4, f5⟩ := hf it (by simp)
    exact wpAny_pyNext_range_end (I.ok.hd hc) st (by have : n ≤ i := hg; omega) fun h' eb => ⟨rfl, I.turned (t' := s.toks) (fun b o hb e => eb b o hb e) f0 f1 f3 f4 f5⟩
  self := fun _ _ _ _ _ st h => wpAny_pyIter_rangeiter st h
end L2

namespace L2
open PySem PySem.Spec PyProof.Rows
section
variable {X : Cx} {tg : Expr}
def iList (K : PySem.W.Frag) (tl : TE) : TI := fun σ H R => tl σ H fun x H1 => ∃ a, x = .ref a ∧ (∃ xs, SqL K H1 a xs) ∧ R (Itl K a) H1
theorem pi_list {l : Expr} {tl : TE} (hl : PE X l tl) : PI X tg l (iList X.K tl) := by
  intro pins s σ H R I h
  refine thn (hl pins s σ H _ I h) fun v s1 ⟨x, H1, I1, r1, q1⟩ => ?_
  obtain ⟨a, e, ⟨xs, hq⟩, q⟩ := q1
  subst e
  cases r1
  obtain ⟨its, rv, p, hz⟩ := I1.list hq
  refine wpAny_pyIter_list p.isList ?_
  refine ⟨s1.heap.objs.size, [s1.heap.objs.size], _, _, H1, rfl, I1.kept (t' := s1.toks) fun b o e => Heap.get?_push_of_some _ e, turn_list a _, ⟨_, Heap.get?_push_size _ rfl, rfl, rfl⟩, fun b hb => ?_, q⟩
  have e : b = s1.heap.objs.size := by simpa using hb
  subst e
  exact I1.fpOk (Nat.le_refl _) (I1.hok.fresh (Nat.le_refl _))
/-- a range object just made, walked -/
theorem range_it {pins : List (Addr × Obj)} {σ : St} {H : Hp} {s : Shared} {R : It → Hp → Prop} {E : Value → Shared → Prop} {lo hi : Int} {t u v : Tok} {tk : Nat} (I : Inv X pins σ H s) (h1 : -(2 ^ 62) ≤ lo) (h2 : lo < 2 ^ 62) (h3 : -(2 ^ 62) ≤ hi) (h4 : hi < 2 ^ 62)
    (q : R (Itr lo (hi - lo).toNat) H) : wpAny (model X.prog X.w) X.A (pyIter (.ref s.heap.objs.size)) (PIE X pins σ tg R) E { s with heap := s.heap.push { cls := .type "range", data := .fields #[.int lo t, .int hi u, .int 1 v] }, toks := tk } := by
  refine wpAny_pyIter_range (IsRange.new ..) (small_one h1 h2 h3 h4) ?_
  have I1 : Inv X pins σ H { s with heap := s.heap.push { cls := .type "range", data := .fields #[.int lo t, .int hi u, .int 1 v] }, toks := tk } := I.kept fun b o e => Heap.get?_push_of_some _ e
  refine ⟨(s.heap.push { cls := .type "range", data := .fields #[.int lo t, .int hi u, .int 1 v] }).objs.size, [(s.heap.push { cls := .type "range", data := .fields #[.int lo t, .int hi u, .int 1 v] }).objs.size], _, _, H, rfl,
    I1.kept (t' := tk) fun b o e => Heap.get?_push_of_some _ e, turn_range _ lo (hi - lo).toNat, ?_, fun b hb => ?_, q⟩
  · have e1 : lo + ((0 : Nat) : Int) * 1 = lo := by simp
    have e2 : (((hi - lo).toNat : Nat) : Int) - ((0 : Nat) : Int) = Builtin.Range.rangeSize lo hi 1 := by rw [rangeSize_one]; split <;> omega
    show IsRangeIter _ _ (lo + ((0 : Nat) : Int) * 1) ((((hi - lo).toNat : Nat) : Int) - ((0 : Nat) : Int)) 1
    rw [e1, e2]
    exact Heap.get?_push_size _ rfl
  · have e : b = (s.heap.push { cls := .type "range", data := .fields #[.int lo t, .int hi u, .int 1 v] }).objs.size := by simpa using hb
    subst e
    exact I1.fpOk (Nat.le_refl _) (I1.hok.fresh (Nat.le_refl _))
def iRng1 (ta : TA) : TI := fun σ H R => ta σ H fun vs H1 => ∃ j : Int, vs = [.int j] ∧ -(2 ^ 62) ≤ j ∧ j < 2 ^ 62 ∧ R (Itr 0 j.toNat) H1
theorem pi_range1 {a : Expr} {ta : TA} {p pos : Pos} (hg : Gl X "range") (hm : X.mg "range" = none) (ha : PA X [a] ta) (hs : starEach [a] X.env = [(false, eval a X.env)] := by rfl) : PI X tg (.Call (.Name "range" p) [a] [] pos) (iRng1 ta) := by
  intro pins s σ H R I h
  refine Call_ (ld_blt I hg hm boot_range (PyProof.Rows.callWith_type1 (thn (ha pos pins s σ H _ I h) fun us s1 ⟨vs, H1, I1, r1, q1⟩ => ?_) hs rfl))
  obtain ⟨j, e, q1, q2, q⟩ := q1
  subst e
  cases r1 with
  | cons r rr =>
    cases rr
    obtain ⟨t, rfl⟩ := r
    exact call_range_1 (range_it I1 (by omega) (by omega) q1 q2 (by simpa using q))
/-! ### for -/
/-- W: the invariant by the turn and a measure; N: what the body is to reach -/
def tFor (wi : TI) (g : TG) (tb : TS) : TS := fun D σ H => wi σ H fun J H1 => ∃ W : Nat → Nat → St → Hp → Prop, (∃ m, W 0 m σ H1) ∧ ∀ i m σ H, W i m σ H →
  (J.stop i H ∧ D.nx σ H) ∨ (J.go i H ∧ ∃ N : St → Hp → Prop, (∀ σ' H', N σ' H' → ∃ m', m' < m ∧ W (i + 1) m' σ' H') ∧ ∀ x H', J.yld i H x H' → g x σ H' fun σ2 H2 => tb { D with nx := N, ct := N, bk := D.nx } σ2 H2)
/-- the records at fp as they stand -/
def pinsAt (fp : List Addr) (h : Heap) : List (Addr × Obj) := fp.filterMap fun b => (h.get? b).map fun o => (b, o)
theorem mem_pinsAt {fp : List Addr} {h : Heap} {b : Addr} {o : Obj} (hb : b ∈ fp) (e : h.get? b = some o) : (b, o) ∈ pinsAt fp h := List.mem_filterMap.mpr ⟨b, hb, by rw [e]; rfl⟩
theorem of_pinsAt {fp : List Addr} {h : Heap} {p : Addr × Obj} (hp : p ∈ pinsAt fp h) : p.1 ∈ fp ∧ h.get? p.1 = some p.2 := by
  obtain ⟨b, hb, e⟩ := List.mem_filterMap.mp hp
  cases q : h.get? b with
  | none => rw [q] at e; cases e
  | some o =>
    rw [q] at e
    have e' : (b, o) = p := Option.some.inj e
    subst e'
    exact ⟨hb, q⟩
theorem Inv.pinned {pins : List (Addr × Obj)} {σ : St} {H : Hp} {s : Shared} {fp : List Addr} (I : Inv X pins σ H s) (hf : ∀ b ∈ fp, FpOk X pins H b) (ho : ∀ b ∈ fp, ∃ o, s.heap.get? b = some o ∧ ∀ v, o.data ≠ .cell v) : Inv X (pins ++ pinsAt fp s.heap) σ H s :=
  I.pins_of fun p hp => (List.mem_append.mp hp).elim (fun z => I.pin p (List.mem_append_right _ z)) fun z => by
    obtain ⟨hb, e⟩ := of_pinsAt z
    obtain ⟨f0, f1, f2, _⟩ := hf p.1 hb
    obtain ⟨o, e', d⟩ := ho p.1 hb
    rw [e] at e'; cases e'
    exact ⟨e, f0, f1, f2, d⟩
theorem Inv.unpinned {pins pl : List (Addr × Obj)} {σ : St} {H : Hp} {s : Shared} (I : Inv X (pins ++ pl) σ H s) : Inv X pins σ H s := I.pins_of fun p hp => I.pin p (List.mem_append_right _ (List.mem_append_left _ hp))
theorem ps_for {iter : Expr} {body : List Stmt} {wi : TI} {g : TG} {tb : TS} {pos : Pos} (hp : PassesOwn (model X.prog X.w) X.A X.env X.xe) (hc : X.calm = true) (hi : PI X tg iter wi) (hg : PG X tg g) (hb : PSs X body tb)
    (hs : ∀ x, foldedSetIterable iter X.env x = pure x := by intro _; rfl) : PS X (.For tg iter body [] pos) (tFor wi g tb) := by
  intro pins s σ H D I h
  refine wpAny_For (thn (hi pins s σ H _ I h) fun v s1 h1 => thn h1 fun itv s2 h2 => ?_) hs
  obtain ⟨it, fp, tn, J, H2, e, I2, T, st2, f2, W, ⟨m0, w0⟩, turn⟩ := h2
  subst e
  -- what stays true of the iterator's objects through the loop
  have stat : ∀ {H' : Hp}, (∀ b ∈ fp, H' b = none) → ∀ b ∈ fp, FpOk X pins H' b := fun hn b hb => ⟨hn b hb, (f2 b hb).2⟩
  refine codeAny_forLoop_any (fun n s' => ∃ i σ' H', Inv X pins σ' H' s' ∧ tn i s'.heap ∧ (∀ b ∈ fp, H' b = none) ∧ W i n σ' H') ?_ m0 ⟨0, σ, H2, I2, st2, fun b hb => (f2 b hb).1, w0⟩
  rintro n s3 ⟨i, σ3, H3, I3, st3, fr3, w3⟩
  rcases turn i n σ3 H3 w3 with ⟨stop, qn⟩ | ⟨go, N, hN, step⟩
  · refine wpAny_passesOwn hp (thn (T.done X rfl rfl rfl hc i pins s3 σ3 H3 X.xe I3 (stat fr3) st3 stop) fun r s4 ⟨hr, I4⟩ => ?_)
    subst hr
    exact wpAny_execs_nil ⟨σ3, H3, I4, qn⟩
  · refine wpAny_passesOwn hp (thn (T.item X rfl rfl rfl hc i pins s3 σ3 H3 X.xe I3 (stat fr3) st3 go) fun r s4 ⟨u, hr, h4⟩ => ?_)
    subst hr
    refine wpAny_passesOwn hp (thn h4 fun _ s5 ⟨x, H5, I5, r5, y5, st5, fr5⟩ => ?_)
    have I5' := I5.pinned (stat fr5) (T.obj _ _ st5)
    refine wpAny_passesOwn hp (thn (hg _ s5 σ3 H5 x u _ I5' r5 (step x H5 y5)) fun _ s6 ⟨σ6, H6, I6, q6⟩ => ?_)
    refine wpAny_passesOwn hp (thn (hb _ s6 σ6 H6 _ I6 q6) fun f s7 q7 => ?_)
    have again : ∀ {σ7 : St} {H7 : Hp}, Inv X (pins ++ pinsAt fp s5.heap) σ7 H7 s7 → N σ7 H7 → ∃ m, m < n ∧ ∃ i σ' H', Inv X pins σ' H' s7 ∧ tn i s7.heap ∧ (∀ b ∈ fp, H' b = none) ∧ W i m σ' H' := fun {σ7 H7} I7 n7 => by
      obtain ⟨m', hm, w7⟩ := hN σ7 H7 n7
      refine ⟨m', hm, i + 1, σ7, H7, I7.unpinned, T.keep _ _ _ st5 fun b hb o e => (I7.pin (b, o) (List.mem_append_right _ (List.mem_append_right _ (mem_pinsAt hb e)))).1, fun b hb => ?_, w7⟩
      obtain ⟨o, e, d⟩ := T.obj _ _ st5 b hb
      exact (I7.pin (b, o) (List.mem_append_right _ (List.mem_append_right _ (mem_pinsAt hb e)))).2.1
    cases f with
    | next => obtain ⟨σ7, H7, I7, n7⟩ := q7; exact again I7 n7
    | cont => obtain ⟨σ7, H7, I7, n7⟩ := q7; exact again I7 n7
    | brk => obtain ⟨σ7, H7, I7, q7⟩ := q7; exact ⟨σ7, H7, I7.unpinned, q7⟩
    | ret v => obtain ⟨x7, σ7, H7, I7, r7, q7⟩ := q7; exact ⟨x7, σ7, H7, I7.unpinned, r7, q7⟩
end

/-! ### the forms one uses -/
theorem for_range {lo : Int} {n : Nat} {g : TG} {tb : TS} {D : Ends} {σ : St} {H : Hp} (Pv : Nat → St → Hp → Prop) (h0 : Pv 0 σ H)
    (hs : ∀ i σ H, i < n → Pv i σ H → g (.int (lo + i)) σ H fun σ2 H2 => tb { D with nx := Pv (i + 1), ct := Pv (i + 1), bk := D.nx } σ2 H2) (hd : ∀ σ H, Pv n σ H → D.nx σ H) :
    ∃ W : Nat → Nat → St → Hp → Prop, (∃ m, W 0 m σ H) ∧ ∀ i m σ H, W i m σ H →
      ((Itr lo n).stop i H ∧ D.nx σ H) ∨ ((Itr lo n).go i H ∧ ∃ N : St → Hp → Prop, (∀ σ' H', N σ' H' → ∃ m', m' < m ∧ W (i + 1) m' σ' H') ∧ ∀ x H', (Itr lo n).yld i H x H' → g x σ H' fun σ2 H2 => tb { D with nx := N, ct := N, bk := D.nx } σ2 H2) := by
  refine ⟨fun i m σ H => m = n - i ∧ i ≤ n ∧ Pv i σ H, ⟨n, by simp, Nat.zero_le _, h0⟩, ?_⟩
  rintro i m σ H ⟨rfl, hi, p⟩
  by_cases hlt : i < n
  · refine .inr ⟨hlt, Pv (i + 1), fun σ' H' p' => ⟨n - (i + 1), by omega, rfl, hlt, p'⟩, fun x H' y => ?_⟩
    obtain ⟨e, y⟩ := y
    subst e y
    exact hs i σ _ hlt p
  · have e : i = n := by omega
    subst e
    exact .inl ⟨Nat.le_refl _, hd σ H p⟩
end L2

namespace L2
open PySem PySem.Spec PyProof.Rows

abbrev R2 := V → V → Hp → VK → Prop
/-- a two-place operation on values: f is binaryOp op, inplaceOp op or compareOp op -/
def OpR (X : Cx) (f : Value → Value → Sem Value) (r : R2) : Prop :=
  ∀ (pins : List (Addr × Obj)) (s : Shared) (σ : St) (H : Hp) (x y : V) (v u : Value) (Q : VK), Inv X pins σ H s → RelV x v → RelV y u → r x y H Q →
    wpAny (model X.prog X.w) X.A (f v u) (EP X pins σ Q) X.xe s
/-- a one-place operation -/
def UnR (X : Cx) (f : Value → Sem Value) (r : V → Hp → VK → Prop) : Prop :=
  ∀ (pins : List (Addr × Obj)) (s : Shared) (σ : St) (H : Hp) (x : V) (v : Value) (Q : VK), Inv X pins σ H s → RelV x v → r x H Q →
    wpAny (model X.prog X.w) X.A (f v) (EP X pins σ Q) X.xe s
/-- a call of a value that is known (a builtin, a type) with values -/
def CallR (X : Cx) (f : Value) (r : List V → Hp → VK → Prop) : Prop :=
  ∀ (pins : List (Addr × Obj)) (s : Shared) (σ : St) (H : Hp) (xs : List V) (us : List Value) (Q : VK), Inv X pins σ H s → Vals xs us → r xs H Q →
    wpAny (model X.prog X.w) X.A (call f us) (EP X pins σ Q) X.xe s
def tOp (r : R2) (ta tb : TE) : TE := fun σ H Q => ta σ H fun x H1 => tb σ H1 fun y H2 => r x y H2 Q
def tUn (r : V → Hp → VK → Prop) (ta : TE) : TE := fun σ H Q => ta σ H fun x H1 => r x H1 Q
/-- ints in, under C, and a value out -/
def rI (C : Int → Int → Prop) (g : Int → Int → V) : R2 := fun x y H Q => ∃ i j, x = .int i ∧ y = .int j ∧ C i j ∧ Q (g i j) H
def rI0 (g : Int → Int → V) : R2 := fun x y H Q => ∃ i j, x = .int i ∧ y = .int j ∧ Q (g i j) H
def rU (g : Int → V) : V → Hp → VK → Prop := fun x H Q => ∃ i, x = .int i ∧ Q (g i) H

section
variable {X : Cx} {a b c : Expr} {ta tb tc : TE} {pos : Pos}

theorem binT (ha : PE X a ta) (hb : PE X b tb) {pins : List (Addr × Obj)} {s : Shared} {σ : St} {H : Hp} {R : V → V → Hp → Prop} (I : Inv X pins σ H s)
    (h : ta σ H fun x H1 => tb σ H1 fun y H2 => R x y H2) {Q : Value → Shared → Prop} {f : Value → Value → Sem Value}
    (hf : ∀ v u s2 x y H2, Inv X pins σ H2 s2 → RelV x v → RelV y u → R x y H2 → wpAny (model X.prog X.w) X.A (f v u) Q X.xe s2) :
    wpAny (model X.prog X.w) X.A (eval a X.env) (fun v s₁ => wpAny (model X.prog X.w) X.A (eval b X.env) (fun u s₂ => wpAny (model X.prog X.w) X.A (f v u) Q X.xe s₂) X.xe s₁) X.xe s := by
  refine thn (ha pins s σ H _ I h) fun v s1 ⟨x, H1, I1, r1, q1⟩ => ?_
  refine thn (hb pins s1 σ H1 _ I1 q1) fun u s2 ⟨y, H2, I2, r2, q2⟩ => ?_
  exact hf v u s2 x y H2 I2 r1 r2 q2

theorem pe_op {op : Operator} {r : R2} (ho : OpR X (binaryOp op) r) (ha : PE X a ta) (hb : PE X b tb) : PE X (.BinOp a op b pos) (tOp r ta tb) := by
  intro pins s σ H Q I h
  exact wpAny_BinOp (binT ha hb I h fun v u s2 x y H2 I2 rx ry q => ho pins s2 σ H2 x y v u Q I2 rx ry q)
theorem pe_un {op : UnaryOp} {r : V → Hp → VK → Prop} (ho : UnR X (unaryOp op) r) (ha : PE X a ta) : PE X (.UnaryOp op a pos) (tUn r ta) := by
  intro pins s σ H Q I h
  exact UnaryOp_ (thn (ha pins s σ H _ I h) fun v s1 ⟨x, H1, I1, r1, q1⟩ => ho pins s1 σ H1 x v Q I1 r1 q1)
/-! ### ints -/
theorem opI {f : Value → Value → Sem Value} {C : Int → Int → Prop} {g : Int → Int → Int}
    (rule : ∀ (i j : Int) (t u : Tok) (s : Shared) (Q : Value → Shared → Prop) (E : Value → Shared → Prop), C i j → Q (.int (g i j) s.toks) { s with toks := s.toks + 1 } → wpAny (model X.prog X.w) X.A (f (.int i t) (.int j u)) Q E s) :
    OpR X f (rI C fun i j => .int (g i j)) := by
  intro pins s σ H x y v u Q I rx ry h
  obtain ⟨i, j, rfl, rfl, hc, q⟩ := h
  obtain ⟨t, rfl⟩ := rx
  obtain ⟨t', rfl⟩ := ry
  exact rule i j t t' s _ _ hc ⟨.int (g i j), H, I.tok _, ⟨_, rfl⟩, q⟩
theorem opI0 {f : Value → Value → Sem Value} {g : Int → Int → Int}
    (rule : ∀ (i j : Int) (t u : Tok) (s : Shared) (Q : Value → Shared → Prop) (E : Value → Shared → Prop), Q (.int (g i j) s.toks) { s with toks := s.toks + 1 } → wpAny (model X.prog X.w) X.A (f (.int i t) (.int j u)) Q E s) :
    OpR X f (rI0 fun i j => .int (g i j)) := by
  intro pins s σ H x y v u Q I rx ry h
  obtain ⟨i, j, rfl, rfl, q⟩ := h
  obtain ⟨t, rfl⟩ := rx
  obtain ⟨t', rfl⟩ := ry
  exact rule i j t t' s _ _ ⟨.int (g i j), H, I.tok _, ⟨_, rfl⟩, q⟩
theorem opB0 {f : Value → Value → Sem Value} {g : Int → Int → Bool}
    (rule : ∀ (i j : Int) (t u : Tok) (s : Shared) (Q : Value → Shared → Prop) (E : Value → Shared → Prop), Q (.bool (g i j)) s → wpAny (model X.prog X.w) X.A (f (.int i t) (.int j u)) Q E s) :
    OpR X f (rI0 fun i j => .bl (g i j)) := by
  intro pins s σ H x y v u Q I rx ry h
  obtain ⟨i, j, rfl, rfl, q⟩ := h
  obtain ⟨t, rfl⟩ := rx
  obtain ⟨t', rfl⟩ := ry
  exact rule i j t t' s _ _ ⟨.bl (g i j), H, I, rfl, q⟩

def CDiv (i j : Int) : Prop := 0 < j ∧ j < 1073741824
def CMul (i j : Int) : Prop := (-(2 ^ 64) < i ∧ i < 2 ^ 64) ∨ (-(2 ^ 64) < j ∧ j < 2 ^ 64)
theorem CMul.ok {i j : Int} (h : CMul i j) : IntMulOk i j := by
  rcases h with ⟨h1, h2⟩ | ⟨h1, h2⟩
  · exact .of_left (intBits_le_64 h1 h2)
  · exact .of_right (intBits_le_64 h1 h2)
theorem op_add : OpR X (binaryOp .Add) (rI0 fun i j => .int (i + j)) := opI0 fun _ _ _ _ _ _ _ q => add_int q
theorem op_sub : OpR X (binaryOp .Sub) (rI0 fun i j => .int (i - j)) := opI0 fun _ _ _ _ _ _ _ q => sub_int q
theorem op_mul : OpR X (binaryOp .Mult) (rI CMul fun i j => .int (i * j)) := opI fun _ _ _ _ _ _ _ hc q => mul_int q hc.ok
/-- // by a positive divisor -/
theorem op_fdiv : OpR X (binaryOp .FloorDiv) (rI CDiv fun i j => .int (i / j)) := opI fun i j _ _ _ _ _ hc q => by
  have h1 : (0 : Int) < j := hc.1
  have h2 : j < 1073741824 := hc.2
  exact floordiv_int (by omega) (by rw [Int.fdiv_eq_ediv_of_nonneg i (by omega)]; exact q) (.inl (PyProof.noPylong_small (by omega)))
/-- % by a positive divisor of any size -/
theorem op_mod : OpR X (binaryOp .Mod) (rI (fun _ j => 0 < j) fun i j => .int (i % j)) := opI fun i j _ _ _ _ _ hc q => by
  have h1 : (0 : Int) < j := hc
  exact mod_int' (by omega) (by rw [Int.fmod_eq_emod_of_nonneg i (by omega)]; exact q)
theorem unI {f : Value → Sem Value} {g : Int → Int}
    (rule : ∀ (i : Int) (t : Tok) (s : Shared) (Q : Value → Shared → Prop) (E : Value → Shared → Prop), Q (.int (g i) s.toks) { s with toks := s.toks + 1 } → wpAny (model X.prog X.w) X.A (f (.int i t)) Q E s) :
    UnR X f (rU fun i => .int (g i)) := by
  intro pins s σ H x v Q I rx h
  obtain ⟨i, rfl, q⟩ := h
  obtain ⟨t, rfl⟩ := rx
  exact rule i t s _ _ ⟨.int (g i), H, I.tok _, ⟨_, rfl⟩, q⟩
theorem un_neg : UnR X (unaryOp .USub) (rU fun i => .int (-i)) := unI fun _ _ _ _ _ q => neg_int q
/-! ### bools among ints: n += (a < b) -/
end

/-! ### comparisons -/
/-- the scalars that == tells apart as data does -/
def scal : V → V → Bool
  | .non, .non => true | .non, .int _ => true | .int _, .non => true | .non, .bl _ => true | .bl _, .non => true | .non, .str _ => true | .str _, .non => true
  | .int _, .int _ => true | .bl _, .bl _ => true | .str _, .str _ => true | .byt _, .byt _ => true
  | .int _, .str _ => true | .str _, .int _ => true | .bl _, .str _ => true | .str _, .bl _ => true
  | _, _ => false
def rEq : R2 := fun x y H Q => scal x y = true ∧ Q (.bl (decide (x = y))) H
def rNe : R2 := fun x y H Q => scal x y = true ∧ Q (.bl (!decide (x = y))) H

theorem dec_int {i j : Int} : decide (V.int i = V.int j) = (i == j) := by
  rw [Bool.eq_iff_iff]
  simp
theorem dec_bl {i j : Bool} : decide (V.bl i = V.bl j) = (i == j) := by
  rw [Bool.eq_iff_iff]
  simp
theorem dec_str {i j : Str} : decide (V.str i = V.str j) = (i == j) := by
  rw [Bool.eq_iff_iff]
  simp
theorem dec_byt {i j : Array UInt8} : decide (V.byt i = V.byt j) = (i.toList == j.toList) := by
  rw [Bool.eq_iff_iff]
  cases i
  cases j
  simp

section
variable {X : Cx} {a b c : Expr} {ta tb tc : TE} {pos : Pos}
theorem fin_bl {pins : List (Addr × Obj)} {σ : St} {H : Hp} {s : Shared} {Q : VK} {k k' : Bool} (I : Inv X pins σ H s) (q : Q (.bl k) H) (e : k = k') : EP X pins σ Q (.bool k') s := by
  subst e
  exact ⟨.bl k, H, I, rfl, q⟩
theorem op_eq : OpR X (compareOp .Eq) rEq := by
  intro pins s σ H x y v u Q I rx ry h
  obtain ⟨hs, q⟩ := h
  cases x with
  | non =>
    cases rx
    cases y with
    | non => cases ry; exact PySem.EqNone.eq_none_none (fin_bl I q (by simp))
    | bl j => cases ry; exact PySem.EqNone.eq_none_bool (fin_bl I q (by simp))
    | int j => obtain ⟨t', rfl⟩ := ry; exact PySem.EqNone.eq_none_int (fin_bl I q (by simp))
    | str j => obtain ⟨t', rfl⟩ := ry; exact PySem.EqNone.eq_none_str (fin_bl I q (by simp))
    | _ => exact absurd (show false = true from hs) Bool.false_ne_true
  | bl i =>
    cases rx
    cases y with
    | non => cases ry; exact PySem.EqNone.eq_bool_none (fin_bl I q (by simp))
    | bl j => cases ry; exact eq_bool (fin_bl I q dec_bl)
    | str j => obtain ⟨t', rfl⟩ := ry; exact PySem.EqMixed.eq_bool_str (fin_bl I q (by simp))
    | _ => exact absurd (show false = true from hs) Bool.false_ne_true
  | int i =>
    obtain ⟨t, rfl⟩ := rx
    cases y with
    | non => cases ry; exact PySem.EqNone.eq_int_none (fin_bl I q (by simp))
    | int j => obtain ⟨t', rfl⟩ := ry; exact eq_int (fin_bl I q dec_int)
    | str j => obtain ⟨t', rfl⟩ := ry; exact PySem.EqMixed.eq_int_str (fin_bl I q (by simp))
    | _ => exact absurd (show false = true from hs) Bool.false_ne_true
  | str i =>
    obtain ⟨t, rfl⟩ := rx
    cases y with
    | non => cases ry; exact PySem.EqNone.eq_str_none (fin_bl I q (by simp))
    | bl j => cases ry; exact PySem.EqMixed.eq_str_bool (fin_bl I q (by simp))
    | int j => obtain ⟨t', rfl⟩ := ry; exact PySem.EqMixed.eq_str_int (fin_bl I q (by simp))
    | str j => obtain ⟨t', rfl⟩ := ry; exact eq_str (fin_bl I q dec_str)
    | _ => exact absurd (show false = true from hs) Bool.false_ne_true
  | byt i =>
    obtain ⟨t, rfl⟩ := rx
    cases y with
    | byt j => obtain ⟨t', rfl⟩ := ry; exact PySem.W.eq_bytes (fin_bl I q dec_byt)
    | _ => exact absurd (show false = true from hs) Bool.false_ne_true
  | _ => cases y <;> exact absurd (show false = true from hs) Bool.false_ne_true
theorem op_ne : OpR X (compareOp .NotEq) rNe := by
  intro pins s σ H x y v u Q I rx ry h
  obtain ⟨hs, q⟩ := h
  cases x with
  | non =>
    cases rx
    cases y with
    | non => cases ry; exact PySem.EqNone.ne_none_none (fin_bl I q (by simp))
    | bl j => cases ry; exact PySem.EqNone.ne_none_bool (fin_bl I q (by simp))
    | int j => obtain ⟨t', rfl⟩ := ry; exact PySem.EqNone.ne_none_int (fin_bl I q (by simp))
    | str j => obtain ⟨t', rfl⟩ := ry; exact PySem.EqNone.ne_none_str (fin_bl I q (by simp))
    | _ => exact absurd (show false = true from hs) Bool.false_ne_true
  | bl i =>
    cases rx
    cases y with
    | non => cases ry; exact PySem.EqNone.ne_bool_none (fin_bl I q (by simp))
    | bl j => cases ry; exact ne_bool (fin_bl I q (congrArg not dec_bl))
    | str j => obtain ⟨t', rfl⟩ := ry; exact PySem.EqMixed.ne_bool_str (fin_bl I q (by simp))
    | _ => exact absurd (show false = true from hs) Bool.false_ne_true
  | int i =>
    obtain ⟨t, rfl⟩ := rx
    cases y with
    | non => cases ry; exact PySem.EqNone.ne_int_none (fin_bl I q (by simp))
    | int j => obtain ⟨t', rfl⟩ := ry; exact ne_int (fin_bl I q (congrArg not dec_int))
    | str j => obtain ⟨t', rfl⟩ := ry; exact PySem.EqMixed.ne_int_str (fin_bl I q (by simp))
    | _ => exact absurd (show false = true from hs) Bool.false_ne_true
  | str i =>
    obtain ⟨t, rfl⟩ := rx
    cases y with
    | non => cases ry; exact PySem.EqNone.ne_str_none (fin_bl I q (by simp))
    | bl j => cases ry; exact PySem.EqMixed.ne_str_bool (fin_bl I q (by simp))
    | int j => obtain ⟨t', rfl⟩ := ry; exact PySem.EqMixed.ne_str_int (fin_bl I q (by simp))
    | str j => obtain ⟨t', rfl⟩ := ry; exact ne_str (fin_bl I q (congrArg not dec_str))
    | _ => exact absurd (show false = true from hs) Bool.false_ne_true
  | byt i =>
    obtain ⟨t, rfl⟩ := rx
    cases y with
    | byt j => obtain ⟨t', rfl⟩ := ry; exact PySem.W.ne_bytes (fin_bl I q (congrArg not dec_byt))
    | _ => exact absurd (show false = true from hs) Bool.false_ne_true
  | _ => cases y <;> exact absurd (show false = true from hs) Bool.false_ne_true

theorem op_lt : OpR X (compareOp .Lt) (rI0 fun i j => .bl (decide (i < j))) := opB0 fun _ _ _ _ _ _ _ q => lt_int q
theorem op_le : OpR X (compareOp .LtE) (rI0 fun i j => .bl (decide (i ≤ j))) := opB0 fun _ _ _ _ _ _ _ q => le_int q
theorem op_gt : OpR X (compareOp .Gt) (rI0 fun i j => .bl (decide (j < i))) := opB0 fun _ _ _ _ _ _ _ q => gt_int q
/-- is None, is not None: the right side a value none -/
theorem op_isN : OpR X (compareOp .Is) (fun x y H Q => y = .non ∧ Q (.bl (decide (x = .non))) H) := by
  intro pins s σ H x y v u Q I rx ry h
  obtain ⟨rfl, q⟩ := h
  cases ry
  refine is_none_gen (fin_bl I q ?_)
  cases x <;> first
    | (cases rx; rfl)
    | (obtain ⟨t, rfl⟩ := rx; rfl)
theorem op_notN : OpR X (compareOp .IsNot) (fun x y H Q => y = .non ∧ Q (.bl (!decide (x = .non))) H) := by
  intro pins s σ H x y v u Q I rx ry h
  obtain ⟨rfl, q⟩ := h
  cases ry
  refine isnot_none_gen (fin_bl I q ?_)
  cases x <;> first
    | (cases rx; rfl)
    | (obtain ⟨t, rfl⟩ := rx; rfl)

/-- two rules for one operation: by cases -/
theorem OpR.or {f : Value → Value → Sem Value} {r r' : R2} (h : OpR X f r) (h' : OpR X f r') : OpR X f (fun x y H Q => r x y H Q ∨ r' x y H Q) := by
  intro pins s σ H x y v u Q I rx ry q
  rcases q with q | q
  · exact h pins s σ H x y v u Q I rx ry q
  · exact h' pins s σ H x y v u Q I rx ry q

theorem nomark (b : Expr) {op : CmpOp} (h : op ≠ .In := by decide) (h2 : op ≠ .NotIn := by decide) : behindInMarks op b = false := by
  have e1 : (op == CmpOp.In) = false := by cases op <;> first | rfl | exact absurd rfl h
  have e2 : (op == CmpOp.NotIn) = false := by cases op <;> first | rfl | exact absurd rfl h2
  cases b <;> simp [behindInMarks, e1, e2]
/-- a comparison as a value; hm: nomark b, or (for in, not in) by with_unfolding_all rfl -/
theorem pe_cmpR {op : CmpOp} {r : R2} (ho : OpR X (compareOp op) r) (ha : PE X a ta) (hb : PE X b tb) (hm : behindInMarks op b = false) : PE X (.Compare a [op] [b] pos) (tOp r ta tb) := by
  intro pins s σ H Q I h
  exact wpAny_Compare1 (binT ha hb I h fun v u s2 x y H2 I2 rx ry q => ho pins s2 σ H2 x y v u Q I2 rx ry q) hm
/-- a reading of a value as a test -/
def tTest (t : TE) : TT := fun σ H Q => t σ H fun x H' => ∃ k, x = .bl k ∧ Q k H'
theorem pt_cmpR {op : CmpOp} {r : R2} (ho : OpR X (compareOp op) r) (ha : PE X a ta) (hb : PE X b tb) (hm : behindInMarks op b = false) : PT X (.Compare a [op] [b] pos) (tTest (tOp r ta tb)) := by
  intro pins s σ H Q I h
  refine wpAny_isTrue_Compare1 (thn (ha pins s σ H _ I h) fun v s1 ⟨x, H1, I1, r1, q1⟩ => thn (hb pins s1 σ H1 _ I1 q1) fun u s2 ⟨y, H2, I2, r2, q2⟩ =>
    thn (ho pins s2 σ H2 x y v u _ I2 r1 r2 q2) fun c s3 ⟨z, H3, I3, r3, k, e, q3⟩ => ?_) hm
  subst e
  cases r3
  exact wpAny_truthy_bool ⟨H3, I3, q3⟩
/-- a op1 b op2 c -/
def tChain (r r' : R2) (ta tb tc : TE) : TE := fun σ H Q => ta σ H fun x H1 => tb σ H1 fun y H2 => r x y H2 fun z H3 => ∃ k, z = .bl k ∧
  (if k = true then tc σ H3 fun w' H4 => r' y w' H4 Q else Q (.bl false) H3)
theorem pe_chain {op op' : CmpOp} {r r' : R2} (ho : OpR X (compareOp op) r) (ho' : OpR X (compareOp op') r') (ha : PE X a ta) (hb : PE X b tb) (hc : PE X c tc)
    (hm : lastMarks [op, op'] [b, c] = false := by with_unfolding_all rfl) : PE X (.Compare a [op, op'] [b, c] pos) (tChain r r' ta tb tc) := by
  intro pins s σ H Q I h
  refine Compare_chain (thn (ha pins s σ H _ I h) fun v s1 ⟨x, H1, I1, r1, q1⟩ => chain_link (thn (hb pins s1 σ H1 _ I1 q1) fun u s2 ⟨y, H2, I2, r2, q2⟩ =>
    thn (ho pins s2 σ H2 x y v u _ I2 r1 r2 q2) fun d s3 ⟨z, H3, I3, r3, k, e, q3⟩ => ?_)) hm
  subst e
  cases r3
  refine wpAny_truthy_bool ?_
  cases k with
  | false => exact ite_ff ⟨.bl false, H3, I3, rfl, q3⟩
  | true => exact ite_tt (chain_last (thn (hc pins s3 σ H3 _ I3 q3) fun w' s4 ⟨z', H4, I4, r4, q4⟩ => ho' pins s4 σ H4 y z' u w' Q I4 r2 r4 q4))
theorem pt_chain {op op' : CmpOp} {r r' : R2} (ho : OpR X (compareOp op) r) (ho' : OpR X (compareOp op') r') (ha : PE X a ta) (hb : PE X b tb) (hc : PE X c tc)
    (hm : lastMarks [op, op'] [b, c] = false := by with_unfolding_all rfl) : PT X (.Compare a [op, op'] [b, c] pos) (tTest (tChain r r' ta tb tc)) := by
  intro pins s σ H Q I h
  refine isTrue_chain (thn (ha pins s σ H _ I h) fun v s1 ⟨x, H1, I1, r1, q1⟩ => test_link (thn (hb pins s1 σ H1 _ I1 q1) fun u s2 ⟨y, H2, I2, r2, q2⟩ =>
    thn (ho pins s2 σ H2 x y v u _ I2 r1 r2 q2) fun d s3 ⟨z, H3, I3, r3, k, e, q3⟩ => ?_)) hm
  subst e
  cases r3
  refine wpAny_truthy_bool ?_
  cases k with
  | false =>
    obtain ⟨k', e', q'⟩ := q3
    cases e'
    exact ite_ff ⟨H3, I3, q'⟩
  | true =>
    refine ite_tt (test_last (thn (hc pins s3 σ H3 _ I3 q3) fun w' s4 ⟨z', H4, I4, r4, q4⟩ => thn (ho' pins s4 σ H4 y z' u w' _ I4 r2 r4 q4) fun d' s5 ⟨z2, H5, I5, r5, k2, e2, q5⟩ => ?_))
    subst e2
    cases r5
    exact wpAny_truthy_bool ⟨H5, I5, q5⟩

/-! ### truth -/
theorem line63 : (sizeLine : Nat) < 2 ^ 63 := by rw [sizeLine_eq]; decide
/-! ### strs and bytes -/
theorem op_add_str : OpR X (binaryOp .Add) (fun x y H Q => ∃ i j, x = .str i ∧ y = .str j ∧ i.length + j.length ≤ sizeLine ∧ Q (.str (i ++ j)) H) := by
  intro pins s σ H x y v u Q I rx ry h
  obtain ⟨i, j, rfl, rfl, hz, q⟩ := h
  obtain ⟨t, rfl⟩ := rx
  obtain ⟨t', rfl⟩ := ry
  exact add_str (fun t' tk => ⟨.str (i ++ j), H, I.tok _, ⟨_, rfl⟩, q⟩) hz
/-! ### scalar builtins, by CallR -/
theorem vals1 {x : V} {us : List Value} (r : Vals [x] us) : ∃ u, us = [u] ∧ RelV x u := by
  cases r with
  | cons r1 r2 => cases r2; exact ⟨_, rfl, r1⟩
theorem vals2 {x y : V} {us : List Value} (r : Vals [x, y] us) : ∃ u w', us = [u, w'] ∧ RelV x u ∧ RelV y w' := by
  cases r with
  | cons r1 r2 =>
    cases r2 with
    | cons r3 r4 => cases r4; exact ⟨_, _, rfl, r1, r3⟩
theorem call_abs : CallR X (.builtin "abs") (fun xs H Q => ∃ i, xs = [.int i] ∧ Q (.int (if i < 0 then -i else i)) H) := by
  intro pins s σ H xs us Q I r h
  obtain ⟨i, rfl, q⟩ := h
  obtain ⟨u, rfl, t, rfl⟩ := vals1 r
  exact call_abs_int fun u tk => ⟨.int (if i < 0 then -i else i), H, I.tok _, ⟨_, rfl⟩, q⟩
theorem call_max2 (hc : X.calm = true) : CallR X (.builtin "max") (fun xs H Q => ∃ i j, xs = [.int i, .int j] ∧ Q (.int (if j > i then j else i)) H) := by
  intro pins s σ H xs us Q I r h
  obtain ⟨i, j, rfl, q⟩ := h
  obtain ⟨u, w', rfl, ⟨t, rfl⟩, ⟨t', rfl⟩⟩ := vals2 r
  refine max_two_ints (I.ok.hd hc) fun h' tk k => ⟨_, H, I.kept k, ?_, q⟩
  by_cases hj : j > i
  · rw [if_pos hj, if_pos hj]; exact ⟨_, rfl⟩
  · rw [if_neg hj, if_neg hj]; exact ⟨_, rfl⟩
theorem call_str_int : CallR X (.type "str") (fun xs H Q => ∃ i, xs = [.int i] ∧ i.natAbs.log2 < 1920 ∧ Q (.str (toString i)) H) := by
  intro pins s σ H xs us Q I r h
  obtain ⟨i, rfl, hz, q⟩ := h
  obtain ⟨u, rfl, t, rfl⟩ := vals1 r
  exact PySem.P.str_of_int hz ⟨.str _, H, I.tok _, ⟨_, rfl⟩, q⟩
end
end L2

namespace L2
open PySem PySem.Spec PyProof.Rows

/-! ### an instance, its attributes a map -/
structure ObjM (h : Heap) (x dx C : Addr) (mA : Str → Option Value) : Prop where
  obj : h.get? x = some (PySem.W.instObj C dx)
  ns : h.Ns1 dx mA
  ne : dx ≠ x

theorem lookIn_ns {h : Heap} {dx : Addr} {mA : Str → Option Value} (n : h.Ns1 dx mA) : ∃ od, h.get? dx = some od ∧ ∀ name, PySem.W.lookIn name od = some (mA name) := by
  obtain ⟨o, es, ep, ho, hd, hk, _, hm⟩ := n
  refine ⟨o, ho, fun name => ?_⟩
  have e := hm name
  unfold nsFind findBy at e
  rw [← Array.find?_toList] at e
  unfold PySem.W.lookIn
  rw [hd]
  dsimp only
  split
  · rename_i y q
    rw [q] at e
    exact congrArg some e
  · rename_i q
    rw [q] at e
    have a : es.toList.any (·.refKey) = false := by
      rw [List.any_eq_false]
      intro y hy
      obtain ⟨z, t, hkey⟩ := hk y (Array.mem_toList_iff.mp hy)
      simp [DictEntry.refKey, hkey]
    have a' : ¬ es.toList.any (·.refKey) = true := by rw [a]; exact Bool.false_ne_true
    rw [if_neg a']
    exact congrArg some e

theorem ObjM.look {h : Heap} {x dx C : Addr} {mA : Str → Option Value} (I : ObjM h x dx C mA) : ∃ od, PySem.W.InstAt h x (PySem.W.instObj C dx) C (some od) ∧ ∀ name, PySem.W.lookIn name od = some (mA name) :=
  let ⟨od, ho, hl⟩ := lookIn_ns I.ns
  ⟨od, ⟨I.obj, rfl, rfl, ho⟩, hl⟩

section
variable {prog : Program} {w : World} {A : Around} {E : Value → Shared → Prop} {s : Shared} {K : PySem.W.Frag} {x dx C f : Addr} {mA : Str → Option Value} {name : Str} {v : Value}

end

/-! ### the attributes as a list of pairs -/
theorem RelO.none_of {o : Option Value} (r : RelO none o) : o = none := by
  cases o with
  | none => rfl
  | some u => exact (show False from r).elim
section
variable {P : Program} {w : World} {H H' : Hp} {h h' : Heap} {a C dx : Addr} {fs fs' : List (Str × V)}
theorem ins_get (hok : HOk P w H h) (e : H a = some (.ins C dx fs)) : ∃ mA, ObjM h a dx C mA ∧ (∀ f, RelO (fs.lookup f) (mA f)) ∧ PySem.Within mA (fs.map (·.1)) ∧ fs.length ≤ 1000 ∧ H dx = some (.own a) := by
  obtain ⟨d, z, ne, ob, mA, n, r, q⟩ := (show ObjOk P w H h a (.ins C dx fs) from hok a _ e)
  exact ⟨mA, ⟨ob, n, ne⟩, r, q, z, d⟩
end

/-! ### what of the text a class must have -/
structure Cls (K : PySem.W.Frag) (C : Addr) : Prop where
  pg : PySem.W.plainGet K C Str.empty = true
  hd : PySem.W.hasDictIn K C = true
  po : PySem.W.plainOver K C = true
  sa : PySem.W.findIn K (.ref C) "__setattr__" = some (some (.builtin "object.__setattr__"))
theorem Cls.get {K : PySem.W.Frag} {C : Addr} (c : Cls K C) (f : Str) : PySem.W.plainGet K C f = true := c.pg
/-- a constant of the class -/
structure Con (K : PySem.W.Frag) (C : Addr) (f : Str) (v : V) (u : Value) : Prop where
  at_ : PySem.W.findIn K (.ref C) f = some (some u)
  rel : RelV v u
  get : PySem.W.specialIn K u "__get__" = some none
  cp : PySem.W.copiedNames.contains f = false
/-- a method: a plain def of the class or of one above it -/
structure Meth (K : PySem.W.Frag) (C : Addr) (m : Str) (f : Addr) : Prop where
  at_ : PySem.W.findIn K (.ref C) m = some (some (.ref f))
  fn : PySem.W.isFn K (.ref f) = true
  kp : PySem.W.keepIn K (.ref f) = true

section
variable {X : Cx} {pins : List (Addr × Obj)} {σ : St} {H : Hp} {s : Shared} {a C dx : Addr} {fs : List (Str × V)} {f : Str} {v : V} {A : Around} {E : Value → Shared → Prop}

/-- a new instance, tracked, without attributes -/
theorem Inv.made (I : Inv X pins σ H s) : Inv X pins σ (upd (upd H s.heap.objs.size (.own (s.heap.objs.size + 1))) (s.heap.objs.size + 1) (.ins C s.heap.objs.size []))
    { s with heap := (s.heap.push PySem.W.emptyDict).push (PySem.W.instObj C s.heap.objs.size) } := by
  have e1 : (s.heap.push PySem.W.emptyDict).get? s.heap.objs.size = some PySem.W.emptyDict := Heap.get?_push_size s.heap rfl
  have e2 : ((s.heap.push PySem.W.emptyDict).push (PySem.W.instObj C s.heap.objs.size)).get? (s.heap.objs.size + 1) = some (PySem.W.instObj C s.heap.objs.size) := by
    have := Heap.get?_push_size (s.heap.push PySem.W.emptyDict) (o := PySem.W.instObj C s.heap.objs.size) rfl
    rwa [Heap.size_push] at this
  have e3 : (s.heap.push PySem.W.emptyDict).Ns s.heap.objs.size (fun _ => none) := ⟨PySem.W.emptyDict, #[], _, e1, rfl, (fun e he => absurd he (by simp)), fun _ => rfl⟩
  have I1 := I.laid (a := s.heap.objs.size) (o := .own (s.heap.objs.size + 1)) (h' := s.heap.push PySem.W.emptyDict) (t' := s.toks) (fun b u q => Heap.get?_push_of_some _ q) (Nat.le_refl _) ⟨_, e1⟩
  refine I1.laid (a := s.heap.objs.size + 1) (o := .ins C s.heap.objs.size []) (t' := s.toks) (fun b u q => Heap.get?_push_of_some _ q) (Nat.le_of_eq (Heap.size_push _ _)) ?_
  have ne : s.heap.objs.size ≠ s.heap.objs.size + 1 := Nat.ne_of_lt (Nat.lt_succ_self _)
  refine ⟨by rw [upd_ne ne, upd_same], Nat.zero_le _, ne, e2, fun _ => none, (Heap.Ns1.of_empty e3).at fun o q => Heap.get?_push_of_some _ q, fun _ => True.intro, fun y hy => absurd rfl hy⟩

end

/-! ### readings and rules -/
section
variable {X : Cx} {o e value : Expr} {f : Str} {pos pos' tpos : Pos} {ta tv : TE}
end

/-! ### isinstance -/
section
variable {X : Cx} {pins : List (Addr × Obj)} {σ : St} {H : Hp} {s : Shared} {A : Around} {E : Value → Shared → Prop} {Q : Value → Shared → Prop} {c : Value} {b : Bool}
/-- the type of a value, as the fragment's deciders take it; for an instance its class -/
inductive TyOf (K : PySem.W.Frag) (H : Hp) : V → Value → Prop where
  | non : TyOf K H .non (.type "NoneType")
  | bl (x : Bool) : TyOf K H (.bl x) (.type "bool")
  | int (i : Int) : TyOf K H (.int i) (.type "int")
  | str (x : Str) : TyOf K H (.str x) (.type "str")
  | flt (x : UInt64) : TyOf K H (.flt x) (.type "float")
  | lst {a : Addr} {xs : List V} (e : H a = some (.lst xs)) : TyOf K H (.ref a) (.type "list")
  | frz {a : Addr} {o : Obj} {xs : List V} (e : H a = some (.frz o (.lst xs))) : TyOf K H (.ref a) (.type "list")
  | tup {a : Addr} {xs : List V} (e : H a = some (.tup xs)) : TyOf K H (.ref a) (.type "tuple")
  | dK {a : Addr} {kvs : List (Key × V)} (e : H a = some (.dK kvs)) : TyOf K H (.ref a) (.type "dict")
  | dT {a : Addr} {kvs : List (List Key × V)} (e : H a = some (.dT kvs)) : TyOf K H (.ref a) (.type "dict")
  | ins {a C dx : Addr} {fs : List (Str × V)} (e : H a = some (.ins C dx fs)) (cl : Cls K C) (ha : PySem.W.findIn K (.ref C) "__class__" = some (some (.builtin "object.__class__")))
      (hn : PySem.W.specialIn K (.builtin "object.__class__") "__get__" = some (some (.builtin "getset_descriptor.__get__"))) (htk : PySem.W.takesIn K (.builtin "object.__class__") = some true)
      (hm : PySem.W.mroIn K C (.type "object") = some true) : TyOf K H (.ref a) (.ref C)
/-- isinstance(x, c) for one class c, a built-in or an own one: kitOne's answer -/
theorem isinst_ok {x : V} {u t : Value} (I : Inv X pins σ H s) (rx : RelV x u) (ty : TyOf X.K H x t) (e : PySem.W.kitOne X.K t c = some b) (h : ∀ tk, Q (.bool b) { s with toks := tk }) :
    wpAny (model X.prog X.w) A (call (.builtin "isinstance") [u, c]) Q E s := by
  cases ty with
  | non => cases (show u = Value.none from rx); exact PySem.W.kia_one PySem.W.kitx_none I.kIn True.intro e (fun z => nomatch z) h
  | bl y => cases (show u = Value.bool y from rx); exact PySem.W.kia_one PySem.W.kitx_bool I.kIn True.intro e (fun z => nomatch z) h
  | int i => obtain ⟨t, q⟩ := (show ∃ t, u = Value.int i t from rx); cases q; exact PySem.W.kia_one PySem.W.kitx_int I.kIn True.intro e (fun z => nomatch z) h
  | str y => obtain ⟨t, q⟩ := (show ∃ t, u = Value.str y t from rx); cases q; exact PySem.W.kia_one PySem.W.kitx_str I.kIn True.intro e (fun z => nomatch z) h
  | flt y => obtain ⟨t, q⟩ := (show ∃ t, u = Value.float y t from rx); cases q; exact PySem.W.kia_one PySem.W.kitx_float I.kIn True.intro e (fun z => nomatch z) h
  | @lst a xs ea =>
    cases (show u = Value.ref a from rx)
    obtain ⟨_, _, n, _, h1⟩ := (show ObjOk X.prog X.w H s.heap a (.lst xs) from I.hok a _ ea)
    exact PySem.W.kia_one PySem.W.kitx_list I.kIn ⟨_, h1, rfl⟩ e (fun z => nomatch z) h
  | @frz a ob xs ea =>
    cases (show u = Value.ref a from rx)
    obtain ⟨_, _, _, n, _, h1⟩ := (show ObjOk X.prog X.w H s.heap a (.frz ob (.lst xs)) from I.hok a _ ea)
    exact PySem.W.kia_one PySem.W.kitx_list I.kIn ⟨_, h1, rfl⟩ e (fun z => nomatch z) h
  | @tup a xs ea =>
    cases (show u = Value.ref a from rx)
    obtain ⟨_, _, _, p⟩ := (show ObjOk X.prog X.w H s.heap a (.tup xs) from I.hok a _ ea)
    obtain ⟨o, h1, h2, _⟩ := p
    exact PySem.W.kia_one PySem.W.kitx_tuple I.kIn ⟨o, h1, h2⟩ e (fun z => nomatch z) h
  | @dK a kvs ea =>
    cases (show u = Value.ref a from rx)
    obtain ⟨_, _, vs, _, p⟩ := (show ObjOk X.prog X.w H s.heap a (.dK kvs) from I.hok a _ ea)
    obtain ⟨o, es, ep, h1, h2, _⟩ := p
    exact PySem.W.kia_one PySem.W.kitx_dict I.kIn ⟨o, h1, h2.1⟩ e (fun z => nomatch z) h
  | @dT a kvs ea =>
    cases (show u = Value.ref a from rx)
    obtain ⟨_, _, xs, _, o, es, ep, h1, h2, _⟩ := (show ObjOk X.prog X.w H s.heap a (.dT kvs) from I.hok a _ ea)
    exact PySem.W.kia_one PySem.W.kitx_dict I.kIn ⟨o, h1, h2.1⟩ e (fun z => nomatch z) h
  | @ins a C dx fs ea cl ha hn htk hm =>
    cases (show u = Value.ref a from rx)
    obtain ⟨mA, O, _⟩ := ins_get I.hok ea
    obtain ⟨od, J, _⟩ := O.look
    exact PySem.W.kia_one (PySem.W.kitx_own (cl.get _) cl.hd ha hn htk hm) I.kIn J e (fun z => nomatch z) h
end
end L2

namespace L2
open PySem PySem.Spec PyProof.Rows

/-! ### room -/
structure Room (k : Nat) (A : Around) : Prop where
  hd : A.handled = none
  dp : A.depth + 3 * k + 5 < recursionLimit
  un : A.units + 16 * k + 200 < cLine
theorem Room.mono {j k : Nat} {A : Around} (r : Room k A) (h : j ≤ k) : Room j A := ⟨r.hd, by have := r.dp; omega, by have := r.un; omega⟩
theorem Room.deeper {k : Nat} {A : Around} (r : Room (k + 1) A) (env : Env) : Room k (A.deeper env) :=
  ⟨r.hd, by have := r.dp; show A.depth + 1 + 3 * k + 5 < _; omega, by have := r.un; show A.units + 3 + 16 * k + 200 < _; omega⟩
theorem Room.in1 {k : Nat} {A : Around} (r : Room (k + 1) A) : Room k A.in1 :=
  ⟨r.hd, by have := r.dp; show A.depth + 3 * k + 5 < _; omega, by have := r.un; show A.units + 1 + 16 * k + 200 < _; omega⟩
theorem make_depth {A : Around} {C : Addr} {us : List Value} {kw : List (Str × Value)} : (A.under (.builtin "type.__call__" ⟨.ref C :: us, kw⟩)).depth = A.depth + 1 := by
  first | rfl | simp [Around.under, Code.weight, Code.isCreation, Code.isGuard, Code.isCaller, Code.frames, Code.isFrame, guardIds]
theorem make_units {A : Around} {C : Addr} {us : List Value} {kw : List (Str × Value)} : (A.under (.builtin "type.__call__" ⟨.ref C :: us, kw⟩)).units = A.units + 1 := by
  first | rfl | simp [Around.under, Code.cUnits, Code.frames, Code.isFrame]
theorem Room.make {k : Nat} {A : Around} (r : Room (k + 1) A) (C : Addr) (us : List Value) (kw : List (Str × Value)) : Room k (A.under (.builtin "type.__call__" ⟨.ref C :: us, kw⟩)) :=
  ⟨r.hd, by have := r.dp; rw [make_depth]; omega, by have := r.un; rw [make_units]; omega⟩
theorem Room.depth {k : Nat} {A : Around} (r : Room k A) : A.depth < recursionLimit := by have := r.dp; omega
theorem Room.units {k : Nat} {A : Around} (r : Room k A) : A.units + 64 < cLine := by have := r.un; omega
theorem Room.units0 {k : Nat} {A : Around} (r : Room k A) : A.units < cLine := by have := r.un; omega

/-! ### argument lists and displays -/
def tNil : TA := fun _ H Q => Q [] H
def tCons (ta : TE) (tr : TA) : TA := fun σ H Q => ta σ H fun x H1 => tr σ H1 fun xs H2 => Q (x :: xs) H2
section
variable {X : Cx} {e : Expr} {es : List Expr} {te : TE} {t : TA} {pos : Pos}
theorem pa_nil : PA X [] tNil := fun _ _ _ _ H Q I h => Calls.spliced_nil ⟨[], H, I, .nil, h⟩
theorem pa_cons (ha : PE X e te) (hr : PA X es t) (hs : starEach (e :: es) X.env = (false, eval e X.env) :: starEach es X.env := by rfl) : PA X (e :: es) (tCons te t) := by
  intro pos pins s σ H Q I h
  rw [hs]
  show wpAny _ _ (spliced ((false, eval e X.env) :: backTo pos (starEach es X.env))) _ _ s
  refine Calls.spliced_cons (thn (ha pins s σ H _ I h) fun u s1 ⟨x, H1, I1, r1, q1⟩ => ?_)
  exact thn (hr pos pins s1 σ H1 _ I1 q1) fun us s2 ⟨xs, H2, I2, r2, q2⟩ => ⟨x :: xs, H2, I2, .cons r1 r2, q2⟩

/-- a tuple, a list of written items -/
def tTup (t : TA) : TE := fun σ H Q => t σ H fun xs H1 => xs.length ≤ sizeLine ∧ ∀ p, H1 p = none → Q (.ref p) (upd H1 p (.tup xs))
def tLst (t : TA) : TE := fun σ H Q => t σ H fun xs H1 => xs.length ≤ sizeLine ∧ ∀ p, H1 p = none → Q (.ref p) (upd H1 p (.lst xs))
theorem pe_tup {x1} (h : PA X es t) : PE X (.Tuple es x1 pos) (tTup t) := by
  intro pins s σ H Q I hq
  refine wpAny_Tuple_spliced (thn (h pos pins s σ H _ I hq) fun us s1 ⟨xs, H1, I1, r, z, q⟩ => ⟨by rw [← r.length]; exact z, ?_⟩)
  have hf : H1 s1.heap.objs.size = none := I1.hok.fresh (Nat.le_refl _)
  refine ⟨.ref s1.heap.objs.size, upd H1 s1.heap.objs.size (.tup xs), I1.laid (t' := s1.toks) (fun b u e => Heap.get?_push_of_some _ e) (Nat.le_refl _) ?_, rfl, q _ hf⟩
  exact ⟨z, us, r, ⟨_, Heap.get?_push_size _ rfl, rfl, _, rfl⟩⟩
theorem pe_lst (h : PA X es t) : PE X (.List es pos) (tLst t) := by
  intro pins s σ H Q I hq
  refine wpAny_List_spliced (thn (h pos pins s σ H _ I hq) fun us s1 ⟨xs, H1, I1, r, z, q⟩ => ⟨by rw [← r.length]; exact z, ?_⟩)
  have hf : H1 s1.heap.objs.size = none := I1.hok.fresh (Nat.le_refl _)
  refine ⟨.ref s1.heap.objs.size, upd H1 s1.heap.objs.size (.lst xs), I1.laid (t' := s1.toks) (fun b u e => Heap.get?_push_of_some _ e) (Nat.le_refl _) ?_, rfl, q _ hf⟩
  exact ⟨z, us, 0, r, Heap.get?_push_size _ rfl⟩
end

/-! ### what a def promises -/
/-- a def's promise: the bound arguments in the parameters' order, the heap, the wanted end, the wanted exception -/
abbrev Sp := List V → Hp → VK → XK → Prop
/-- how an exception lies behind a call (file 08 gives it): the callers' frames, abstract heap and state ahead of the call, the wish, the exception, the state -/
abbrev CXT := List Env → Hp → Shared → XK → Value → Shared → Prop

/-- the state at a call -/
structure Env0 (P : Program) (w : World) (K : PySem.W.Frag) (mg : Str → Option Value) (base : Heap) (A : Around) (outer : List Env) (s : Shared) (H : Hp) : Prop where
  frames : A.frames = some outer
  mod : Mod K mg base
  bs : ∀ b o, base.get? b = some o → s.heap.get? b = some o ∧ H b = none
  bsz : base.objs.size ≤ s.heap.objs.size
  funs : s.heap.FunFrames base outer
  frf : ∀ b ∈ frs outer, H b = none
  hok : HOk P w H s.heap
  bare : AllBare s.gens
/-- a call's end -/
def CE (outer : List Env) (P : Program) (w : World) (H : Hp) (s : Shared) (Q : VK) (u : Value) (s' : Shared) : Prop :=
  ∃ v H', s'.os = s.os ∧ AllBare s'.gens ∧ Un (frs outer) [] H H' s.heap s'.heap ∧ HOk P w H' s'.heap ∧ RelV v u ∧ Q v H'
def CR (CX : CXT) (outer : List Env) (P : Program) (w : World) (H : Hp) (s : Shared) (Q : VK) (E : XK) (r : Result) (s' : Shared) : Prop :=
  match r with
  | .ok (.ret u) => CE outer P w H s Q u s'
  | .ok _ => False
  | .error e => CX outer H s E e s'
structure FnOk (P : Program) (w : World) (K : PySem.W.Frag) (mg : Str → Option Value) (base : Heap) (CX : CXT) (k : Nat) (f : Addr) (fd : FuncData) (ps : List Str) (sp : Sp) : Prop where
  len : ∀ vs H Q E, sp vs H Q E → vs.length = ps.length
  run : ∀ (A : Around) (outer : List Env) (s : Shared) (H : Hp) (args : Args) (us : List Value) (vs : List V) (Q : VK) (E : XK), Room k A → Env0 P w K mg base A outer s H → BindsTo s fd args (ps.zip us) → Vals vs us → sp vs H Q E →
    codeAny (model P w) A (.call (.ref f) args) (CR CX outer P w H s Q E) s
theorem FnOk.mono {P : Program} {w : World} {K : PySem.W.Frag} {mg : Str → Option Value} {base : Heap} {CX : CXT} {j k : Nat} {f : Addr} {fd : FuncData} {ps : List Str} {sp : Sp} (F : FnOk P w K mg base CX j f fd ps sp) (h : j ≤ k) :
    FnOk P w K mg base CX k f fd ps sp := ⟨F.len, fun A outer s H args us vs Q E hr => F.run A outer s H args us vs Q E (hr.mono h)⟩
/-- a weaker promise -/
theorem FnOk.imp {P : Program} {w : World} {K : PySem.W.Frag} {mg : Str → Option Value} {base : Heap} {CX : CXT} {k : Nat} {f : Addr} {fd : FuncData} {ps : List Str} {sp sp' : Sp} (F : FnOk P w K mg base CX k f fd ps sp)
    (h : ∀ vs H Q E, sp' vs H Q E → sp vs H Q E) : FnOk P w K mg base CX k f fd ps sp' :=
  ⟨fun vs H Q E q => F.len vs H Q E (h _ _ _ _ q), fun A outer s H args us vs Q E hr he hb hv hs => F.run A outer s H args us vs Q E hr he hb hv (h _ _ _ _ hs)⟩

theorem Env0.make {P : Program} {w : World} {K : PySem.W.Frag} {mg : Str → Option Value} {base : Heap} {A : Around} {outer : List Env} {s : Shared} {H : Hp} (e : Env0 P w K mg base A outer s H) (C : Addr) (us : List Value) (kw : List (Str × Value)) :
    Env0 P w K mg base (A.under (.builtin "type.__call__" ⟨.ref C :: us, kw⟩)) outer s H := ⟨by first | exact e.frames | (simpa [Around.under, Code.envs, Code.isFrame, pushEnvs] using e.frames), e.mod, e.bs, e.bsz, e.funs, e.frf, e.hok, e.bare⟩
theorem Env0.in1 {P : Program} {w : World} {K : PySem.W.Frag} {mg : Str → Option Value} {base : Heap} {A : Around} {outer : List Env} {s : Shared} {H : Hp} (e : Env0 P w K mg base A outer s H) :
    Env0 P w K mg base A.in1 outer s H := ⟨e.frames, e.mod, e.bs, e.bsz, e.funs, e.frf, e.hok, e.bare⟩

section
variable {X : Cx} {pins : List (Addr × Obj)} {σ : St} {H : Hp} {s s' : Shared}
/-- from a body: what a callee wants -/
theorem Inv.env0 (I : Inv X pins σ H s) : Env0 X.prog X.w X.K X.mg X.base X.A X.stack s H :=
  ⟨I.ok.frames, I.ok.mod, I.bs, Nat.le_trans I.ok.bsz I.sz, I.stack, I.stkFree, I.hok, I.bare⟩
/-- behind a call -/
theorem Inv.after {Q : VK} {u : Value} (I : Inv X pins σ H s) (h : CE X.stack X.prog X.w H s Q u s') : EP X pins σ Q u s' := by
  obtain ⟨v, H', os, bare, un, hok, r, q⟩ := h
  obtain ⟨hh, g, d, t, os'⟩ := s'
  obtain rfl : os' = s.os := os
  exact ⟨v, H', I.call (h' := hh) (g' := g) (d' := d) (t' := t) (ch := []) un hok bare (fun b z => absurd z (by simp)), r, q⟩
end

/-! ### calls -/
/-- f(..): the written arguments, then the defaults dvs; E: what is wanted of an exception -/
def tCall (sp : Sp) (dvs : List V) (E : XK) (t : TA) : TE := fun σ H Q => t σ H fun vs H1 => sp (vs ++ dvs) H1 Q E
/-- how the parameters are bound: us the positional arguments, kw the keywords' values by name, ds the defaults that fill up -/
def Binds (K : PySem.W.Frag) (fd : FuncData) (ps : List Str) (ds : List Value) : Prop :=
  ∀ (s : Shared) (us : List Value), K.In s.heap → (us ++ ds).length = ps.length → BindsTo s fd ⟨us, []⟩ (ps.zip (us ++ ds))
/-- every parameter is given -/
theorem Binds.all {K : PySem.W.Frag} {fd : FuncData} {ps : List Str} (h : ∀ us : List Value, us.length = ps.length → bindArgs fd ⟨us, []⟩ = pure (ps.zip us)) : Binds K fd ps [] := fun s us _ hl => by
  rw [List.append_nil] at hl ⊢
  exact .of_eq (h us hl)

/-- an exception of a callee reaches what this body wants of exceptions -/
def Passes (CX : CXT) (X : Cx) (E : XK) : Prop := ∀ (pins : List (Addr × Obj)) (σ : St) (H : Hp) (s : Shared) (e : Value) (s' : Shared), Inv X pins σ H s → CX X.stack H s E e s' → X.xe e s'

section
variable {X : Cx} {CX : CXT} {k : Nat} {f C : Addr} {fd : FuncData} {ps : List Str} {sp : Sp} {dvs : List V} {ds : List Value} {E : XK} {x m : Str} {p pos apos : Pos} {e o : Expr} {es : List Expr} {ta : TE} {t : TA}

/-- the callee runs -/
theorem run_fn {pins : List (Addr × Obj)} {σ : St} {H : Hp} {s : Shared} {Q : VK} {us : List Value} {vs : List V} (F : FnOk X.prog X.w X.K X.mg X.base CX k f fd ps sp) (hr : Room k X.A) (hb : Binds X.K fd ps ds) (hd : Vals dvs ds) (hx : Passes CX X E)
    (I : Inv X pins σ H s) (r : Vals vs us) (h : sp (vs ++ dvs) H Q E) : wpAny (model X.prog X.w) X.A (call (.ref f) us) (EP X pins σ Q) X.xe s := by
  have r2 : Vals (vs ++ dvs) (us ++ ds) := r.append hd
  have hl : (us ++ ds).length = ps.length := by rw [← r2.length]; exact F.len _ _ _ _ h
  refine wpAny_call (codeAny_mono (F.run X.A X.stack s H ⟨us, []⟩ (us ++ ds) (vs ++ dvs) Q E hr I.env0 (hb s us I.kIn hl) r2 h) fun r s' hq => ?_)
  cases r with
  | error e => exact hx pins σ H s e s' I hq
  | ok fl =>
    cases fl with
    | ret u => exact I.after hq
    | next => exact False.elim hq
    | brk => exact False.elim hq
    | cont => exact False.elim hq

theorem pe_call (F : FnOk X.prog X.w X.K X.mg X.base CX k f fd ps sp) (hr : Room k X.A) (hg : Gl X x) (hm : X.mg x = some (.ref f)) (hk : PySem.W.keepIn X.K (.ref f) = true) (hb : Binds X.K fd ps ds) (hd : Vals dvs ds) (hx : Passes CX X E)
    (ha : PA X (e :: es) t) (hdb : (x == ("__debug__" : Str)) = false := by decide) (he : starEach (e :: es) X.env = (false, eval e X.env) :: starEach es X.env := by rfl) (hpl : (backTo pos (starEach es X.env)).any (·.1) = false := by rfl) :
    PE X (.Call (.Name x p) (e :: es) [] pos) (tCall sp dvs E t) := by
  intro pins s σ H Q I h
  refine wpAny_Call_Name_kw (ld_glob I hg hm ?_ hdb)
  refine PySem.W.callWith_K (h₀ := X.base) I.ok.mod.kin hk (thn (ha pos pins s σ H _ I h) fun us s1 ⟨vs, H1, I1, r, q⟩ => ⟨I1.kIn, ?_⟩) he hpl
  exact run_fn F hr hb hd hx I1 r q
/-- what a class must have to be made -/
structure Mk (K : PySem.W.Frag) (C f : Addr) : Prop where
  makes : PySem.W.makesIn K C = true
  init : PySem.W.findIn K (.ref C) "__init__" = some (some (.ref f))
  fn : PySem.W.isFn K (.ref f) = true
  kp : PySem.W.keepIn K (.ref C) = true

end

/-! ### keywords -/
section
variable {X : Cx} {CX : CXT} {k : Nat} {f C : Addr} {fd : FuncData} {ps ks : List Str} {sp : Sp} {E : XK} {x m : Str} {p pos apos kpos : Pos} {e o : Expr} {es : List Expr} {kws : List Keyword} {te ta : TE} {t tk : TA} {nm : Option Str}
/-- how a call with keywords binds: g puts the positional values us and the keywords' values ws (names ks) in the parameters' order, defaults among them -/
structure KBinds (K : PySem.W.Frag) (fd : FuncData) (ps ks : List Str) (g : List Value → List Value → List Value) (gV : List V → List V → List V) : Prop where
  to : ∀ (s : Shared) (us ws : List Value), K.In s.heap → (g us ws).length = ps.length → BindsTo s fd ⟨us, ks.zip ws⟩ (ps.zip (g us ws))
  rel : ∀ {vs : List V} {us : List Value} {zs : List V} {ws : List Value}, Vals vs us → Vals zs ws → Vals (gV vs zs) (g us ws)
variable {g : List Value → List Value → List Value} {gV : List V → List V → List V}
end

/-! ### a def's body keeps its promise -/
/-- names: the parameters first -/
structure FnScope (N P : List Str) (sc : Scope) : Prop where
  kind : sc.kind = .function
  co : sc.isCoroutine = false
  gen : sc.isGenerator = false
  nd : N.Nodup
  pre : N.take P.length = P
  par : ∀ x ∈ P, sc.names.lookup x = some .local ∨ sc.names.lookup x = some .cell
  nofree : ∀ y ∈ sc.names, y.2 ≠ .free

theorem bindL_out {kindOf : Str → Option NameKind} {x : Str} : ∀ {binds : List (Str × Value)} {m : Str → Option Value}, (∀ v, (x, v) ∉ binds) → bindL kindOf binds m x = m x
  | [], _, _ => rfl
  | (n, v) :: r, m, h => by
    unfold bindL
    rw [bindL_out fun w hw => h w (List.mem_cons_of_mem _ hw)]
    split
    · have : x ≠ n := by rintro rfl; exact h v List.mem_cons_self
      simp [this]
    · rfl
theorem bindC_out {kindOf : Str → Option NameKind} {x : Str} : ∀ {binds : List (Str × Value)} {m : Str → Option Value}, (∀ v, (x, v) ∉ binds) → bindC kindOf binds m x = m x
  | [], _, _ => rfl
  | (n, v) :: r, m, h => by
    unfold bindC
    rw [bindC_out fun w hw => h w (List.mem_cons_of_mem _ hw)]
    split
    · rfl
    · have : x ≠ n := by rintro rfl; exact h v List.mem_cons_self
      simp [this]
theorem bindL_get {kindOf : Str → Option NameKind} {x : Str} {v : Value} : ∀ {P : List Str} {vs : List Value} {i : Nat} {m : Str → Option Value}, P.Nodup → P[i]? = some x → vs[i]? = some v → kindOf x = some .local →
    bindL kindOf (P.zip vs) m x = some v
  | [], _, _, _, _, h, _, _ => by simp at h
  | _ :: _, [], _, _, _, _, h, _ => by simp at h
  | p :: P, w :: vs, 0, m, nd, h1, h2, hk => by
    simp at h1 h2; subst h1; subst h2
    show bindL kindOf ((p, w) :: P.zip vs) m p = _
    unfold bindL
    rw [bindL_out fun v hv => (List.nodup_cons.mp nd).1 (List.of_mem_zip hv).1, if_pos hk]
    simp
  | p :: P, w :: vs, i + 1, m, nd, h1, h2, hk => by
    show bindL kindOf ((p, w) :: P.zip vs) m x = _
    unfold bindL
    exact bindL_get (i := i) (List.nodup_cons.mp nd).2 (by simpa using h1) (by simpa using h2) hk
theorem bindC_get {kindOf : Str → Option NameKind} {x : Str} {v : Value} : ∀ {P : List Str} {vs : List Value} {i : Nat} {m : Str → Option Value}, P.Nodup → P[i]? = some x → vs[i]? = some v → kindOf x ≠ some .local →
    bindC kindOf (P.zip vs) m x = some v
  | [], _, _, _, _, h, _, _ => by simp at h
  | _ :: _, [], _, _, _, _, h, _ => by simp at h
  | p :: P, w :: vs, 0, m, nd, h1, h2, hk => by
    simp at h1 h2; subst h1; subst h2
    show bindC kindOf ((p, w) :: P.zip vs) m p = _
    unfold bindC
    rw [bindC_out fun v hv => (List.nodup_cons.mp nd).1 (List.of_mem_zip hv).1, if_neg hk]
    simp
  | p :: P, w :: vs, i + 1, m, nd, h1, h2, hk => by
    show bindC kindOf ((p, w) :: P.zip vs) m x = _
    unfold bindC
    exact bindC_get (i := i) (List.nodup_cons.mp nd).2 (by simpa using h1) (by simpa using h2) hk

/-- the names' values at the entry -/
def start (N : List Str) (vs : List V) : St := vs.map some ++ List.replicate (N.length - vs.length) none

/-- the context of a def's body, at its entry; an exception leaves the frame, then lies as CX says -/
def cxOf (CX : CXT) (P : Program) (w : World) (K : PySem.W.Frag) (mg : Str → Option Value) (base : Heap) (N : List Str) (qual : Str) (scope : Scope) (f : Addr) (cd : Value) (A : Around) (outer : List Env) (s : Shared) (H : Hp) (E : XK) : Cx where
  prog := P
  w := w
  K := K
  mg := mg
  base := base
  A := A.deeper (envOfC qual scope s.heap.objs.size f cd)
  N := N
  s₀ := s
  H₀ := H
  env := envOfC qual scope s.heap.objs.size f cd
  outer := outer
  stack := envOfC qual scope s.heap.objs.size f cd :: outer
  ex := []
  calm := true
  fn := fun _ => true
  pn := []
  xe := fun e s' => wpAny (model P w) (A.deeper (envOfC qual scope s.heap.objs.size f cd)) (leaving (envOfC qual scope s.heap.objs.size f cd) e) (fun _ s'' => CX outer H s E e s'') (fun e' s'' => CX outer H s E e' s'') s'

theorem cell_has {sc : Scope} {n : Nat} {x : Str} (h : sc.names.lookup x = some .cell) : ∃ c, (cellsFrom n sc.names []).lookup x = some c := by
  have q := PySem.W.cellsFrom_some sc.names n [] (.inl h)
  exact Option.isSome_iff_exists.mp q

theorem inv_start {CX : CXT} {P : Program} {w : World} {K : PySem.W.Frag} {mg : Str → Option Value} {base : Heap} {N ps : List Str} {qual : Str} {scope : Scope} {f : Addr} {cd : Value} {A : Around} {outer : List Env} {s s1 : Shared} {H : Hp} {E : XK} {us : List Value} {vs : List V}
    (S : FnScope N ps scope) (hd : A.handled = none) (e0 : Env0 P w K mg base A outer s H) (hl : vs.length = ps.length) (r : Vals vs us)
    (x : InCallC s s.heap.objs.size (bindL (envOfC qual scope s.heap.objs.size f cd).kindOf (ps.zip us) fun _ => none) (cellsFrom (s.heap.objs.size + 1) scope.names []) (bindC (envOfC qual scope s.heap.objs.size f cd).kindOf (ps.zip us) fun _ => none) s1) :
    Inv (cxOf CX P w K mg base N qual scope f cd A outer s H E) [] (start N vs) H s1 := by
  have hpl : ps.length ≤ N.length := by have := congrArg List.length S.pre; rw [List.length_take] at this; omega
  obtain ⟨h1, tk, rfl, hk⟩ := x.done
  have noA : ∀ b : Addr, b ∉ (cxOf CX P w K mg base N qual scope f cd A outer s H E).ex := fun b z => absurd (show b ∈ ([] : List Addr) from z) (by simp)
  refine ⟨⟨e0.mod, S.kind, rfl, rfl, Nat.le_refl _, fun y z c h1 h2 => ?_, fun y hy => ?_, fun y c _ h => ?_, fun _ => hd, Around.frames_deeper e0.frames, .inr ⟨rfl, rfl⟩, fun b z => absurd z (noA b), e0.bs, e0.bsz, fun b _ _ => noA b, fun b z => absurd z (noA b), e0.funs, e0.frf⟩,
    rfl, e0.bare, Un.kept hk, ⟨_, x.toInCall.ns, fun i y v h1 h2 h3 => ?_⟩, fun y c h => ⟨_, x.cell y c h⟩, e0.hok.fresh (Nat.le_refl _), fun y c h => ?_, fun p hp => absurd (show p ∈ ([] : List (Addr × Obj)) from hp) (by simp), e0.hok.kept hk, ?_⟩
  · exact name_of_addr x.apart (PySem.mem_of_lookup h1) (PySem.mem_of_lookup h2)
  · have hy : scope.names.lookup y = some .cell ∨ scope.names.lookup y = some .free := hy
    rcases hy with hy | hy
    · exact cell_has hy
    · exact absurd rfl (S.nofree _ (PySem.mem_of_lookup hy))
  · exact Nat.le_of_lt (x.above y c (PySem.mem_of_lookup h))
  · have hi : i < vs.length := by
      unfold start at h2
      by_cases hi : i < vs.length
      · exact hi
      · rw [List.getElem?_append_right (by simpa using hi)] at h2
        rw [List.getElem?_replicate] at h2
        split at h2 <;> cases h2
    have ha : vs[i]? = some v := by
      unfold start at h2
      rw [List.getElem?_append_left (by simpa using hi), List.getElem?_map] at h2
      cases e : vs[i]? with
      | none => rw [e] at h2; cases h2
      | some a => rw [e] at h2; cases h2; rfl
    obtain ⟨u, hu, rv⟩ := r.get ha
    have hp : ps[i]? = some y := by
      rw [← S.pre, List.getElem?_take_of_lt (by omega)]; exact h1
    have ndP : ps.Nodup := by rw [← S.pre]; exact S.nd.sublist (List.take_sublist _ _)
    refine ⟨u, rv, ?_⟩
    rcases S.par y (List.mem_of_getElem? hp) with k | k
    · exact .inl ⟨k, bindL_get ndP hp hu k⟩
    · obtain ⟨c, e⟩ := cell_has (n := s.heap.objs.size + 1) k
      refine .inr ⟨.inl k, c, e, ?_⟩
      have q := x.cell y c e
      rw [bindC_get ndP hp hu (by show scope.names.lookup y ≠ _; rw [k]; decide)] at q
      exact q
  · exact e0.hok.fresh (Nat.le_of_lt (x.above y c (PySem.mem_of_lookup h)))
  · unfold start
    show _ = N.length
    rw [List.length_append, List.length_map, List.length_replicate]
    omega

/-- THE RULE: a def (or a method) of the text, by its body. The body's reading t is chosen for each entry; it is run at the parameters' values -/
theorem fn_of {CX : CXT} {P : Program} {w : World} {K : PySem.W.Frag} {mg : Str → Option Value} {base : Heap} {k : Nat} {f : Addr} {name qual : Str} {params : Arguments} {body : List Stmt} {scope : Scope} {dV kV doc pm cdv ct oc : Value} {an od : Option Addr}
    {osl : Array (Option Value)} {N ps : List Str} {sp : Sp} (lk : K.lookup f = some ⟨oc, od, .func (PySem.W.fnOf name qual params body scope dV kV doc pm an cdv ct), osl⟩) (hcd : PySem.W.codeIn K cdv qual = true) (S : FnScope N ps scope)
    (len : ∀ vs H Q E, sp vs H Q E → vs.length = ps.length)
    (hbody : ∀ (A : Around) (outer : List Env) (s : Shared) (H : Hp) (vs : List V) (Q : VK) (E : XK), Room k (A.deeper (envOfC qual scope s.heap.objs.size f cdv)) → sp vs H Q E →
      ∃ t, PSs (cxOf CX P w K mg base N qual scope f cdv A outer s H E) body t ∧ t { nx := fun _ H' => Q .non H', rt := Q } (start N vs) H) :
    FnOk P w K mg base CX (k + 1) f (PySem.W.fnOf name qual params body scope dV kV doc pm an cdv ct) ps sp := by
  refine ⟨len, fun A outer s H args us vs Q E hr e0 hb r hsp => ?_⟩
  have hl := len _ _ _ _ hsp
  have KX : K.In s.heap := e0.mod.kin.keeps fun b o e => (e0.bs b o e).1
  have lim : s.heap.NoLimit := e0.mod.nolimit.keeps fun b o e => (e0.bs b o e).1
  have hkind : ∀ y ∈ ps.zip us, scope.names.lookup y.1 = some .local ∨ (scope.names.lookup y.1 = some .cell ∧ ((cellsFrom (s.heap.objs.size + 1) scope.names []).lookup y.1).isSome = true) := fun ⟨n, v⟩ hy => by
    rcases S.par n (List.of_mem_zip hy).1 with q | q
    · exact .inl q
    · exact .inr ⟨q, PySem.W.cellsFrom_some _ _ _ (.inl q)⟩
  refine codeAny_call_function hr.depth (KX _ _ lk) rfl S.co S.gen rfl (PySem.W.codeRec_of KX hcd) (hb _ _ _ _ ?_)
  refine wpAny_newFunctionEnv_cells S.kind hkind fun env he s1 x => ?_
  subst he
  refine ⟨lim.keeps x.toInCall.keep, codeAny_func ?_⟩
  obtain ⟨t, ht, hq⟩ := hbody A outer s H vs Q E (hr.deeper _) hsp
  have I : Inv (cxOf CX P w K mg base N qual scope f cdv A outer s H E) [] (start N vs) H s1 := inv_start S hr.hd e0 hl r x
  refine wpAny_mono (ht [] s1 (start N vs) H _ I hq) (fun fl s' hs => ?_) fun e s' hs => hs
  have fin : ∀ {σ' : St} {H' : Hp} {v : V} {u : Value}, Inv (cxOf CX P w K mg base N qual scope f cdv A outer s H E) [] σ' H' s' → RelV v u → Q v H' → CE outer P w H s Q u s' :=
    fun {σ' H' v u} J rv q => ⟨v, H', J.os, J.bare, J.base, J.hok, rv, q⟩
  cases fl with
  | ret u =>
    obtain ⟨v, σ', H', J, rv, q⟩ := hs
    exact fin J rv q
  | next =>
    obtain ⟨σ', H', J, q⟩ := hs
    exact fin (v := V.non) (u := Value.none) J rfl q
  | brk =>
    obtain ⟨_, _, _, q⟩ := hs
    exact False.elim q
  | cont =>
    obtain ⟨_, _, _, q⟩ := hs
    exact False.elim q
end L2

namespace L2
open PySem PySem.Spec PyProof.Rows
section
variable {X : Cx} {x : Str} {p pos : Pos} {e : Expr} {es : List Expr} {t : TA} {id T : String} {r : List V → Hp → VK → Prop}

def tCB (r : List V → Hp → VK → Prop) (t : TA) : TE := fun σ H Q => t σ H fun vs H1 => r vs H1 Q
/-- f(e, ..), f a built-in function -/
theorem pe_callB (hc : CallR X (.builtin id) r) (hg : Gl X x) (hm : X.mg x = none) (hv : bootBuiltins x = some (.builtin id)) (ha : PA X (e :: es) t) (hn : x ≠ "__name__" := by decide) (hdb : (x == ("__debug__" : Str)) = false := by decide)
    (he : starEach (e :: es) X.env = (false, eval e X.env) :: starEach es X.env := by rfl) (hpl : (backTo pos (starEach es X.env)).any (·.1) = false := by rfl) : PE X (.Call (.Name x p) (e :: es) [] pos) (tCB r t) := by
  intro pins s σ H Q I h
  refine wpAny_Call_Name_kw (ld_blt I hg hm hv ?_ hn hdb)
  exact PyProof.Rows.callWith_builtin1 (thn (ha pos pins s σ H _ I h) fun us s1 ⟨vs, H1, I1, r1, q1⟩ => hc pins s1 σ H1 vs us Q I1 r1 q1) he hpl
/-- T(e, ..), T a built-in type -/
theorem pe_callTy (hc : CallR X (.type T) r) (hg : Gl X x) (hm : X.mg x = none) (hv : bootBuiltins x = some (.type T)) (ha : PA X (e :: es) t) (hn : x ≠ "__name__" := by decide) (hdb : (x == ("__debug__" : Str)) = false := by decide)
    (he : starEach (e :: es) X.env = (false, eval e X.env) :: starEach es X.env := by rfl) (hpl : (backTo pos (starEach es X.env)).any (·.1) = false := by rfl) : PE X (.Call (.Name x p) (e :: es) [] pos) (tCB r t) := by
  intro pins s σ H Q I h
  refine wpAny_Call_Name_kw (ld_blt I hg hm hv ?_ hn hdb)
  exact PyProof.Rows.callWith_type1 (thn (ha pos pins s σ H _ I h) fun us s1 ⟨vs, H1, I1, r1, q1⟩ => hc pins s1 σ H1 vs us Q I1 r1 q1) he hpl
end
end L2

namespace HT
open PySem PyProof.Rows

section
open PySem.SeqAt
open PySem.AutoSeq1 (wpAny_loadPart')
open PySem.MeetsSeq PySem.MeetsSeq2 PySem.MeetsSeq3

end

section
variable {prog : Program} {w : World} {A : Around} {E : Value → Shared → Prop} {s : Shared}

/-! ### t[a:b], not the whole -/
/-- a slice's bound as a place among n (d where it is left out) -/
def sIx (n d : Nat) : Option Int → Nat
  | none => d
  | some v => if v < 0 then (v + (n : Int)).toNat else min v.toNat n
theorem sIx_none (n d : Nat) : sIx n d none = d := rfl
theorem sIx_nat (n d k : Nat) : sIx n d (some (k : Int)) = min k n := by
  show (if (k : Int) < 0 then ((k : Int) + (n : Int)).toNat else min (k : Int).toNat n) = min k n
  rw [if_neg (by omega), Int.toNat_natCast]
end
end HT

namespace L2
open PySem PySem.Spec PyProof.Rows

/-! ### the parts of a slice -/
abbrev TO := St → Hp → (Option Int → Hp → Prop) → Prop
/-- a slice's part (left out, or an int) -/
def PO (X : Cx) (e : Option Expr) (t : TO) : Prop :=
  ∀ (pins : List (Addr × Obj)) (s : Shared) (σ : St) (H : Hp) (Q : Option Int → Hp → Prop), Inv X pins σ H s → t σ H Q →
    wpAny (model X.prog X.w) X.A (evalPart e X.env) (fun u s' => ∃ o H', Inv X pins σ H' s' ∧ IsPart u o ∧ Q o H') X.xe s
def tNoPart : TO := fun _ H Q => Q none H
def tPart (t : TE) : TO := fun σ H Q => t σ H fun x H1 => ∃ i, x = .int i ∧ Q (some i) H1

section
variable {X : Cx} {e : Expr} {te : TE} {lo hi : Option Expr} {tl th : TO} {pos p2 : Pos}

theorem po_none : PO X none tNoPart := by
  intro pins s σ H Q I h
  rw [evalPart_none]
  exact wpAny_pure ⟨none, H, I, .none, h⟩
theorem po_some (h : PE X e te) : PO X (some e) (tPart te) := by
  intro pins s σ H Q I hw
  rw [evalPart_some]
  refine thn (h pins s σ H _ I hw) fun u s1 ⟨x, H1, I1, r1, q1⟩ => ?_
  obtain ⟨i, rfl, q⟩ := q1
  obtain ⟨t, rfl⟩ := r1
  exact ⟨some i, H1, I1, .int i t, q⟩

/-- what a slice of a value is, by values: the slice object stands at sl -/
def SlR (X : Cx) (r : V → Option Int → Option Int → Hp → VK → Prop) : Prop :=
  ∀ (pins : List (Addr × Obj)) (s : Shared) (σ : St) (H : Hp) (x : V) (v vl vu : Value) (lo hi : Option Int) (sl : Addr) (Q : VK), Inv X pins σ H s → RelV x v → s.heap.IsSliceOf sl vl vu .none → IsPart vl lo → IsPart vu hi → r x lo hi H Q →
    ∃ T id, typeLookup (.type T) "__getitem__" = pure (some (.builtin id)) ∧ s.TypeIs v T ∧ wpAny (model X.prog X.w) X.A (getItem v (.ref sl)) (EP X pins σ Q) X.xe s
theorem SlR.or {r r' : V → Option Int → Option Int → Hp → VK → Prop} (h : SlR X r) (h' : SlR X r') : SlR X (fun x lo hi H Q => r x lo hi H Q ∨ r' x lo hi H Q) := by
  intro pins s σ H x v vl vu lo hi sl Q I rx hs pl pu q
  rcases q with q | q
  · exact h pins s σ H x v vl vu lo hi sl Q I rx hs pl pu q
  · exact h' pins s σ H x v vl vu lo hi sl Q I rx hs pl pu q
def tSl (r : V → Option Int → Option Int → Hp → VK → Prop) (te : TE) (tl th : TO) : TE := fun σ H Q => te σ H fun x H1 => tl σ H1 fun l H2 => th σ H2 fun u H3 => r x l u H3 Q
/-- a[lo:hi], any a -/
theorem pe_slice {r : V → Option Int → Option Int → Hp → VK → Prop} (hr : SlR X r) (he : PE X e te) (hl : PO X lo tl) (hu : PO X hi th) : PE X (.Subscript e (.Slice lo hi none p2) pos) (tSl r te tl th) := by
  intro pins s σ H Q I h
  refine Subscript_ (thn (he pins s σ H _ I h) fun v s1 ⟨x, H1, I1, r1, q1⟩ => ?_)
  refine wpAny_Slice (thn (hl pins s1 σ H1 _ I1 q1) fun vl s2 ⟨l, H2, I2, pl, q2⟩ => thn (hu pins s2 σ H2 _ I2 q2) fun vu s3 ⟨u, H3, I3, pu, q3⟩ => ?_)
  rw [evalPart_none]
  refine wpAny_pure ?_
  have I4 : Inv X pins σ H3 { s3 with heap := s3.heap.push { cls := .type "slice", data := .fields #[vl, vu, .none] } } := I3.kept (t' := s3.toks) fun b ob q => Heap.get?_push_of_some _ q
  obtain ⟨T, id, hT, ht, hg⟩ := hr pins { s3 with heap := s3.heap.push { cls := .type "slice", data := .fields #[vl, vu, .none] } } σ H3 x v vl vu l u s3.heap.objs.size Q I4 r1 (Heap.IsSliceOf.new ..) pl pu q3
  show wpAny (model X.prog X.w) X.A (subscriptTail e (.Slice lo hi none p2) v (.ref s3.heap.objs.size)) (EP X pins σ Q) X.xe { s3 with heap := s3.heap.push { cls := .type "slice", data := .fields #[vl, vu, .none] } }
  exact tail_any (ops := [.ref s3.heap.objs.size, v]) ht hT hg (by with_unfolding_all rfl)

/-- the items of xs[lo:hi] -/
def cutV (xs : List V) (lo hi : Option Int) : List V := (xs.drop (HT.sIx xs.length 0 lo)).take (HT.sIx xs.length xs.length hi - HT.sIx xs.length 0 lo)
theorem cutV_length (xs : List V) (lo hi : Option Int) : (cutV xs lo hi).length ≤ xs.length := by
  unfold cutV
  rw [List.length_take, List.length_drop]
  omega
/-! ### t < u, t + u -/
theorem Vals.nil_iff {xs : List V} {us : List Value} (r : Vals xs us) : us = [] ↔ xs = [] := by
  cases r with
  | nil => simp
  | cons _ _ => simp
end
end L2

namespace L2
open PySem PySem.Spec PyProof.Rows

/-! ### places -/
/-- the place that an index of any sign means -/
def ixN (n : Nat) (i : Int) : Option Nat := if 0 ≤ i then (if i < n then some i.toNat else none) else if -(n : Int) ≤ i then some (i + n).toNat else none
def atI {α : Type} (xs : List α) (i : Int) : Option α := (ixN xs.length i).bind fun j => xs[j]?
theorem ixN_seq {n : Nat} {i : Int} {j : Nat} (h : ixN n i = some j) : seqIndex? i n = some j ∧ j < n ∧ -(n : Int) ≤ i ∧ i < n := by
  unfold ixN at h
  by_cases h0 : 0 ≤ i
  · rw [if_pos h0] at h
    by_cases h1 : i < n
    · rw [if_pos h1] at h
      have e : i.toNat = j := Option.some.inj h
      exact ⟨by rw [seqIndex_of h0 h1, e], by omega, by omega, h1⟩
    · rw [if_neg h1] at h; cases h
  · rw [if_neg h0] at h
    by_cases h1 : -(n : Int) ≤ i
    · rw [if_pos h1] at h
      have e : (i + n).toNat = j := Option.some.inj h
      exact ⟨by rw [seqIndex_neg (by omega) h1, e], by omega, h1, by omega⟩
    · rw [if_neg h1] at h; cases h
theorem atI_get {α : Type} {xs : List α} {i : Int} {v : α} (h : atI xs i = some v) : ∃ j, seqIndex? i xs.length = some j ∧ xs[j]? = some v ∧ j < xs.length ∧ -(xs.length : Int) ≤ i ∧ i < xs.length := by
  unfold atI at h
  cases e : ixN xs.length i with
  | none => rw [e] at h; cases h
  | some j =>
    rw [e] at h
    obtain ⟨h1, h2, h3, h4⟩ := ixN_seq e
    exact ⟨j, h1, h, h2, h3, h4⟩
theorem atI_nat {α : Type} {xs : List α} {j : Nat} {v : α} (h : xs[j]? = some v) : atI xs (j : Int) = some v := by
  have hj : j < xs.length := (List.getElem?_eq_some_iff.mp h).1
  have e : ixN xs.length (j : Int) = some j := by
    unfold ixN
    rw [if_pos (by omega), if_pos (by omega)]; simp
  unfold atI; rw [e]; exact h
theorem atI_last {α : Type} (xs : List α) (v : α) : atI (xs ++ [v]) (-1) = some v := by
  have hl : (xs ++ [v]).length = xs.length + 1 := by simp
  have e : ixN (xs ++ [v]).length (-1) = some xs.length := by
    unfold ixN
    rw [hl, if_neg (by decide), if_pos (by omega)]
    congr 1
    omega
  unfold atI
  rw [e]
  show (xs ++ [v])[xs.length]? = some v
  simp

/-! ### what may be subscripted -/
/-- what stands as an index of a plain subscript -/
def PlainIx (b : Expr) : Prop := ∀ o i, subscripted b false o i = operate [o, i] (getItem o i)
/-- a subscript by values -/
def IxR (X : Cx) (r : R2) : Prop :=
  ∀ (value slice : Expr) (pins : List (Addr × Obj)) (s : Shared) (σ : St) (H : Hp) (x y : V) (v u : Value) (Q : VK), Inv X pins σ H s → RelV x v → RelV y u → r x y H Q →
    subscripted slice false v u = operate [v, u] (getItem v u) → wpAny (model X.prog X.w) X.A (subscriptTail value slice v u) (EP X pins σ Q) X.xe s
/-- a call of a builtin's method by values: the receiver, the arguments -/
def MtR (X : Cx) (id : String) (r : V → List V → Hp → VK → Prop) : Prop :=
  ∀ (pins : List (Addr × Obj)) (s : Shared) (σ : St) (H : Hp) (x : V) (xs : List V) (v : Value) (us : List Value) (Q : VK), Inv X pins σ H s → RelV x v → Vals xs us → r x xs H Q →
    wpAny (model X.prog X.w) X.A (call (.builtin id) (v :: us)) (EP X pins σ Q) X.xe s
section
variable {X : Cx} {a b : Expr} {ta tb : TE} {pos : Pos}
theorem IxR.or {r r' : R2} (h : IxR X r) (h' : IxR X r') : IxR X (fun x y H Q => r x y H Q ∨ r' x y H Q) := by
  intro value slice pins s σ H x y v u Q I rx ry q hs
  rcases q with q | q
  · exact h value slice pins s σ H x y v u Q I rx ry q hs
  · exact h' value slice pins s σ H x y v u Q I rx ry q hs
theorem MtR.or {id : String} {r r' : V → List V → Hp → VK → Prop} (h : MtR X id r) (h' : MtR X id r') : MtR X id (fun x xs H Q => r x xs H Q ∨ r' x xs H Q) := by
  intro pins s σ H x xs v us Q I rx rs q
  rcases q with q | q
  · exact h pins s σ H x xs v us Q I rx rs q
  · exact h' pins s σ H x xs v us Q I rx rs q
/-- a[b] -/
theorem pe_ix {r : R2} (hr : IxR X r) (ha : PE X a ta) (hb : PE X b tb) (hs : PlainIx b) : PE X (.Subscript a b pos) (tOp r ta tb) := by
  intro pins s σ H Q I h
  exact Subscript_ (binT ha hb I h fun v u s2 x y H2 I2 rx ry q => hr a b pins s2 σ H2 x y v u Q I2 rx ry q (hs _ _))

def rIxL (K : PySem.W.Frag) : R2 := fun x y H Q => ∃ p xs i v, x = .ref p ∧ y = .int i ∧ SqL K H p xs ∧ atI xs i = some v ∧ Q v H
def rIxT (K : PySem.W.Frag) : R2 := fun x y H Q => ∃ p xs i v, x = .ref p ∧ y = .int i ∧ SqT K H p xs ∧ atI xs i = some v ∧ Q v H
def rIxS : R2 := fun x y H Q => ∃ z i c, x = .str z ∧ y = .int i ∧ z.length ≤ sizeLine ∧ atI z.cps.toList i = some c ∧ Q (.str ⟨#[c]⟩) H
theorem ix_list : IxR X (rIxL X.K) := by
  intro value slice pins s σ H x y v u Q I rx ry h hs
  obtain ⟨p, xs, i, z, rfl, rfl, hq, he, q⟩ := h
  cases rx
  obtain ⟨t, rfl⟩ := ry
  obtain ⟨its, r, pl, hz⟩ := I.list hq
  obtain ⟨j, h1, h2, h3, h4, h5⟩ := atI_get he
  obtain ⟨w, ew, rw'⟩ := r.get h2
  have hl := r.length
  have hn := line63
  have fin : EP X pins σ Q w s := ⟨z, H, I, rw', q⟩
  by_cases h0 : 0 ≤ i
  · have hj : i.toNat = j := by
      rw [seqIndex_of h0 h5] at h1
      exact Option.some.inj h1
    exact item_listR pl.isList h0 (by omega) (by rw [hj]; simpa using ew) fin hs
  · have hj : (i + (its.toArray.size : Int)).toNat = j := by
      rw [seqIndex_neg (by omega) h4] at h1
      rw [List.size_toArray, ← hl]
      exact Option.some.inj h1
    exact subscriptTail_builtinR (x := w) pl.isList.typeIs slot_list_getitem.lookup
      (wpAny_getItem_list_neg (Q := fun r s' => r = w ∧ EP X pins σ Q r s') pl.isList (by omega) (by rw [List.size_toArray] <;> omega) (by omega) (by rw [hj]; simpa using ew) ⟨rfl, fin⟩) hs
theorem ix_tup : IxR X (rIxT X.K) := by
  intro value slice pins s σ H x y v u Q I rx ry h hs
  obtain ⟨p, xs, i, z, rfl, rfl, hq, he, q⟩ := h
  cases rx
  obtain ⟨t, rfl⟩ := ry
  obtain ⟨its, r, pl, hz⟩ := I.tuple hq
  obtain ⟨j, h1, h2, h3, h4, h5⟩ := atI_get he
  obtain ⟨w, ew, rw'⟩ := r.get h2
  have hl := r.length
  have hn := line63
  have fin : EP X pins σ Q w s := ⟨z, H, I, rw', q⟩
  exact subscriptTail_builtinR (x := w) pl.typeIs slot_tuple_getitem.lookup
    (getItem_tuple (j := j) (Q := fun r s' => r = w ∧ EP X pins σ Q r s') pl (by omega) (by omega) (by rw [List.size_toArray, ← hl]; exact h1) (by simpa using ew) ⟨rfl, fin⟩) hs
theorem ix_str : IxR X rIxS := by
  intro value slice pins s σ H x y v u Q I rx ry h hs
  obtain ⟨z, i, c, rfl, rfl, hz, he, q⟩ := h
  obtain ⟨t, rfl⟩ := rx
  obtain ⟨t', rfl⟩ := ry
  obtain ⟨j, h1, h2, h3, h4, h5⟩ := atI_get he
  have hl : z.cps.toList.length = z.length := by simp [Str.length]
  rw [hl] at h1 h4 h5
  have hn := line63
  exact tail_any (typeIs_str s z t) slot_str_getitem.lookup (getItem_str (c := c) (by
    have e1 : decide (i < -(2 ^ 63 : Int)) = false := decide_eq_false (by omega)
    have e2 : decide (i ≥ 2 ^ 63) = false := decide_eq_false (by omega)
    rw [e1, e2, Bool.or_false]) (by rw [h1]; simpa using h2) ⟨.str ⟨#[c]⟩, H, I.tok _, ⟨_, rfl⟩, q⟩) hs
/-! ### xs[i] = v, any sign -/
theorem Inv.lst {pins : List (Addr × Obj)} {σ : St} {H : Hp} {s : Shared} {p : Addr} {xs : List V} (I : Inv X pins σ H s) (h : H p = some (.lst xs)) :
    ∃ (its : List Value) (n : Nat), Vals xs its ∧ s.heap.get? p = some { cls := .type "list", data := .seq its.toArray n } ∧ xs.length ≤ sizeLine := by
  obtain ⟨z, its, n, r, e⟩ := I.hok p _ h
  exact ⟨its, n, r, e, z⟩
/-! ### slices -/
theorem slice_bounds (lo hi : Option Int) (n : Nat) : (sliceBounds lo hi none n).1 = ((HT.sIx n 0 lo : Nat) : Int) ∧ (sliceBounds lo hi none n).2.1 = ((HT.sIx n n hi : Nat) : Int) ∧ (sliceBounds lo hi none n).2.2 = 1 := by
  refine ⟨?_, ?_, rfl⟩
  · cases lo with
    | none => simp [sliceBounds, HT.sIx]
    | some i =>
      simp only [sliceBounds, HT.sIx, Option.getD_none, show (1 : Int) > 0 by decide, if_true]
      by_cases h : i < 0
      · simp only [h, if_true] <;> omega
      · simp only [h, if_false] <;> omega
  · cases hi with
    | none => simp [sliceBounds, HT.sIx]
    | some i =>
      simp only [sliceBounds, HT.sIx, Option.getD_none, show (1 : Int) > 0 by decide, if_true]
      by_cases h : i < 0
      · simp only [h, if_true] <;> omega
      · simp only [h, if_false] <;> omega
theorem slicePick_cut (its : List Value) (lo hi : Option Int) : slicePick its.toArray lo hi none = ((its.drop (HT.sIx its.length 0 lo)).take (HT.sIx its.length its.length hi - HT.sIx its.length 0 lo)).toArray := by
  obtain ⟨h1, h2, h3⟩ := slice_bounds lo hi its.toArray.size
  unfold slicePick
  rw [h1, h2, h3]
  simp only [sliceRange_one, pick_run, List.size_toArray] <;> rfl
/-- xs[lo:hi] of a list: a new list -/
def rSlL (K : PySem.W.Frag) : V → Option Int → Option Int → Hp → VK → Prop := fun x lo hi H Q => ∃ a xs, x = .ref a ∧ SqL K H a xs ∧ ∀ p, H p = none → Q (.ref p) (upd H p (.lst (cutV xs lo hi)))
theorem sl_list : SlR X (rSlL X.K) := by
  intro pins s σ H x v vl vu lo hi sl Q I rx hs pl pu h
  obtain ⟨a, xs, rfl, hx, q⟩ := h
  cases rx
  obtain ⟨its, r, ht, hz⟩ := I.list hx
  have hlen := r.length
  refine ⟨"list", _, slot_list_getitem.lookup, ht.isList.typeIs, ?_⟩
  refine wpAny_getItem_list_slice ht.isList hs pl pu .none (by simp) ?_ (by rw [List.size_toArray] <;> omega)
  rw [slicePick_cut, ← hlen]
  refine ⟨.ref s.heap.objs.size, _, I.laid (t' := s.toks) (o := .lst (cutV xs lo hi)) (fun b ob q => Heap.get?_push_of_some _ q) (Nat.le_refl _) ?_, rfl, q _ (I.hok.fresh (Nat.le_refl _))⟩
  exact ⟨Nat.le_trans (cutV_length xs lo hi) hz, _, 0, (r.drop (HT.sIx xs.length 0 lo)).take (HT.sIx xs.length xs.length hi - HT.sIx xs.length 0 lo), Heap.get?_push_size _ rfl⟩

/-! ### in, not in: flat items -/
def flatV : V → Bool
  | .non => true
  | .bl _ => true
  | .int _ => true
  | .str _ => true
  | _ => false
/-- == of flat values -/
def eqV : V → V → Bool
  | .non, .non => true
  | .bl a, .bl b => a == b
  | .bl a, .int b => (if a then 1 else 0) == b
  | .int a, .bl b => a == (if b then 1 else 0)
  | .int a, .int b => a == b
  | .str a, .str b => a == b
  | _, _ => false
theorem eqAt_V {A : Around} {s : Shared} {y x : V} {u v : Value} (ry : RelV y u) (rx : RelV x v) (fy : flatV y = true) (fx : flatV x = true) : SeqAt.EqAt A s u v (eqV y x) := by
  cases y with
  | non =>
    cases ry
    cases x with
    | non => cases rx; exact SeqAt.EqAt.same _
    | bl b => cases rx; exact SeqAt.EqAt.none_bool b
    | int b => obtain ⟨t, rfl⟩ := rx; exact SeqAt.EqAt.none_int b t
    | str b => obtain ⟨t, rfl⟩ := rx; exact SeqAt.EqAt.none_str b t
    | _ => exact absurd (show false = true from fx) Bool.false_ne_true
  | bl a =>
    cases ry
    cases x with
    | non => cases rx; exact SeqAt.EqAt.bool_none a
    | bl b => cases rx; exact SeqAt.EqAt.bool_bool a b
    | int b => obtain ⟨t, rfl⟩ := rx; exact SeqAt.EqAt.bool_int a b t
    | str b => obtain ⟨t, rfl⟩ := rx; exact SeqAt.EqAt.bool_str a b t
    | _ => exact absurd (show false = true from fx) Bool.false_ne_true
  | int a =>
    obtain ⟨t', rfl⟩ := ry
    cases x with
    | non => cases rx; exact SeqAt.EqAt.int_none a t'
    | bl b => cases rx; exact SeqAt.EqAt.int_bool a t' b
    | int b => obtain ⟨t, rfl⟩ := rx; exact SeqAt.EqAt.int_int a t' b t
    | str b => obtain ⟨t, rfl⟩ := rx; exact SeqAt.EqAt.int_str a t' b t
    | _ => exact absurd (show false = true from fx) Bool.false_ne_true
  | str a =>
    obtain ⟨t', rfl⟩ := ry
    cases x with
    | non => cases rx; exact SeqAt.EqAt.str_none a t'
    | bl b => cases rx; exact SeqAt.EqAt.str_bool a t' b
    | int b => obtain ⟨t, rfl⟩ := rx; exact SeqAt.EqAt.str_int a t' b t
    | str b => obtain ⟨t, rfl⟩ := rx; exact SeqAt.EqAt.str_str a t' b t
    | _ => exact absurd (show false = true from fx) Bool.false_ne_true
  | _ => exact absurd (show false = true from fy) Bool.false_ne_true
/-- the items' answers, read off the values (a value's own answer does not lean on its token) -/
def eqU (x : V) (u : Value) : Bool := match u with
  | .none => eqV .non x
  | .bool b => eqV (.bl b) x
  | .int i _ => eqV (.int i) x
  | .str z _ => eqV (.str z) x
  | _ => false
theorem eqU_of {x y : V} {u : Value} (r : RelV y u) (f : flatV y = true) : eqU x u = eqV y x := by
  cases y with
  | non => cases r; rfl
  | bl b => cases r; rfl
  | int i => obtain ⟨t, rfl⟩ := r; rfl
  | str z => obtain ⟨t, rfl⟩ := r; rfl
  | _ => exact absurd (show false = true from f) Bool.false_ne_true
theorem any_eqU {x : V} : ∀ {xs : List V} {us : List Value}, Vals xs us → xs.all flatV = true → us.any (eqU x) = xs.any fun y => eqV y x
  | _, _, .nil, _ => rfl
  | y :: xs, u :: us, .cons r t, f => by
    rw [List.all_cons, Bool.and_eq_true] at f
    rw [List.any_cons, List.any_cons, eqU_of r f.1, any_eqU t f.2]
theorem mem_eqAt {A : Around} {s : Shared} {x : V} {v : Value} (rx : RelV x v) (fx : flatV x = true) : ∀ {xs : List V} {us : List Value}, Vals xs us → xs.all flatV = true → ∀ u ∈ us, SeqAt.EqAt A s u v (eqU x u)
  | _, _, .nil, _ => fun u hu => by cases hu
  | y :: xs, u :: us, .cons r t, f => fun u' hu => by
    rw [List.all_cons, Bool.and_eq_true] at f
    rcases List.mem_cons.mp hu with rfl | hu
    · rw [eqU_of r f.1]; exact eqAt_V r rx f.1 fx
    · exact mem_eqAt rx fx t f.2 u' hu
def inV (x : V) (xs : List V) : Bool := xs.any fun y => eqV y x
/-- x in a list or tuple of flat items -/
def rIn (K : PySem.W.Frag) (neg : Bool) : R2 := fun x y H Q => ∃ p xs, y = .ref p ∧ (SqL K H p xs ∨ SqT K H p xs) ∧ flatV x = true ∧ xs.all flatV = true ∧ Q (.bl (if neg then !inV x xs else inV x xs)) H
theorem op_notIn_seq : OpR X (compareOp .NotIn) (rIn X.K true) := by
  intro pins s σ H x y v u Q I rx ry h
  obtain ⟨p, xs, rfl, hq, fx, fs, q⟩ := h
  cases ry
  rcases hq with hq | hq
  · obtain ⟨its, r, pl, hz⟩ := I.list hq
    refine SeqAt.notIn_listAt (eqU x) pl.isList (fun w hw => mem_eqAt rx fx r fs w (by simpa using hw)) ⟨.bl _, H, I, rfl, ?_⟩
    rw [show its.toArray.any (eqU x) = its.any (eqU x) by simp, any_eqU r fs]
    exact q
  · obtain ⟨its, r, pl, hz⟩ := I.tuple hq
    refine SeqAt.notIn_tupleAt (eqU x) pl (fun w hw => mem_eqAt rx fx r fs w (by simpa using hw)) ⟨.bl _, H, I, rfl, ?_⟩
    rw [show its.toArray.any (eqU x) = its.any (eqU x) by simp, any_eqU r fs]
    exact q
/-! ### len, list(x), tuple(x) of any list or tuple that is read -/
theorem call_len_seq : CallR X (.builtin "len") (fun xs H Q => ∃ p ys, xs = [.ref p] ∧ (SqL X.K H p ys ∨ SqT X.K H p ys) ∧ Q (.int ys.length) H) := by
  intro pins s σ H xs us Q I r h
  obtain ⟨p, ys, rfl, hq, q⟩ := h
  obtain ⟨u, rfl, rx⟩ := vals1 r
  cases rx
  have hn := line63
  rcases hq with hq | hq
  · obtain ⟨its, r', pl, hz⟩ := I.list hq
    have hlen := r'.length
    exact Calls.call_len_list pl.isList (by simp only [List.size_toArray] <;> omega) ⟨.int ys.length, H, I.tok _, ⟨s.toks + 1, by rw [List.size_toArray, hlen]⟩, q⟩
  · obtain ⟨its, r', pl, hz⟩ := I.tuple hq
    have hlen := r'.length
    exact len_tuple pl (by simp only [List.size_toArray] <;> omega) ⟨.int ys.length, H, I.tok _, ⟨s.toks + 1, by rw [List.size_toArray, hlen]⟩, q⟩
theorem call_len_str : CallR X (.builtin "len") (fun xs H Q => ∃ z, xs = [.str z] ∧ z.length ≤ sizeLine ∧ Q (.int z.length) H) := by
  intro pins s σ H xs us Q I r h
  obtain ⟨z, rfl, hz, q⟩ := h
  obtain ⟨u, rfl, t, rfl⟩ := vals1 r
  have hn := line63
  exact len_str (by omega) ⟨.int z.length, H, I.tok _, ⟨_, rfl⟩, q⟩
theorem CallR.or {f : Value} {r r' : List V → Hp → VK → Prop} (h : CallR X f r) (h' : CallR X f r') : CallR X f (fun xs H Q => r xs H Q ∨ r' xs H Q) := by
  intro pins s σ H xs us Q I rs q
  rcases q with q | q
  · exact h pins s σ H xs us Q I rs q
  · exact h' pins s σ H xs us Q I rs q
theorem call_list_of : CallR X (.type "list") (fun xs H Q => ∃ p ys, xs = [.ref p] ∧ (SqL X.K H p ys ∨ SqT X.K H p ys) ∧ ∀ l, H l = none → Q (.ref l) (upd H l (.lst ys))) := by
  intro pins s σ H xs us Q I r h
  obtain ⟨p, ys, rfl, hq, q⟩ := h
  obtain ⟨u, rfl, rx⟩ := vals1 r
  cases rx
  have fin : ∀ (its : List Value), Vals ys its → ys.length ≤ sizeLine → ∀ (h' : Heap) (c' : Nat), (∀ b o', s.heap.get? b = some o' → h'.get? b = some o') →
      h'.get? s.heap.objs.size = some { cls := .type "list", dict := none, data := .seq its.toArray c', slots := #[] } → EP X pins σ Q (.ref s.heap.objs.size) { s with heap := h' } := fun its r' hz h' c' kp e =>
    ⟨.ref s.heap.objs.size, _, I.laid (t' := s.toks) kp (Nat.le_refl _) (show ObjOk X.prog X.w _ h' _ (.lst ys) from ⟨hz, its, c', r', e⟩), rfl, q _ (I.hok.fresh (Nat.le_refl _))⟩
  rcases hq with hq | hq
  · obtain ⟨its, r', pl, hz⟩ := I.list hq
    have hlen := r'.length
    obtain ⟨o, ho, hc, n, hd⟩ := pl.isList
    exact call_list_seq p (.inl rfl) ho hc hd (fun h' c' kp e => fin its r' hz h' c' kp e) (by simp only [List.size_toArray] <;> omega)
  · obtain ⟨its, r', pl, hz⟩ := I.tuple hq
    have hlen := r'.length
    obtain ⟨o, ho, hc, n, hd⟩ := pl
    exact call_list_seq p (.inr rfl) ho hc hd (fun h' c' kp e => fin its r' hz h' c' kp e) (by simp only [List.size_toArray] <;> omega)
theorem call_tuple_of : CallR X (.type "tuple") (fun xs H Q => ∃ p ys, xs = [.ref p] ∧ ((SqL X.K H p ys ∧ ∀ l, H l = none → Q (.ref l) (upd H l (.tup ys))) ∨ (SqT X.K H p ys ∧ Q (.ref p) H))) := by
  intro pins s σ H xs us Q I r h
  obtain ⟨p, ys, rfl, h⟩ := h
  obtain ⟨u, rfl, rx⟩ := vals1 r
  cases rx
  rcases h with ⟨hq, q⟩ | ⟨hq, q⟩
  · obtain ⟨its, r', pl, hz⟩ := I.list hq
    have hlen := r'.length
    refine call_tuple_list pl.isList (fun h' kp => ?_) (by simp only [List.size_toArray] <;> omega)
    have I1 : Inv X pins σ H { s with heap := h' } := I.kept (t' := s.toks) kp
    have I2 : Inv X pins σ (upd H h'.objs.size (.tup ys)) { s with heap := h'.push { cls := .type "tuple", data := .seq its.toArray } } :=
      I1.laid (t' := s.toks) (fun b o e => Heap.get?_push_of_some _ e) (Nat.le_refl _) (show ObjOk X.prog X.w _ _ _ (.tup ys) from ⟨hz, its, r', IsTup.new _ _⟩)
    exact ⟨.ref h'.objs.size, _, I2, rfl, q _ (I1.hok.fresh (Nat.le_refl _))⟩
  · obtain ⟨its, r', pl, hz⟩ := I.tuple hq
    exact call_tuple_same pl ⟨.ref p, H, I, rfl, q⟩

/-! ### the call of a builtin's method: o.m(..) -/
/-- the value is of that builtin type -/
def tyV (K : PySem.W.Frag) (T : String) (x : V) (H : Hp) : Prop := match x with
  | .str _ => T = "str"
  | .int _ => T = "int"
  | .ref p => (T = "list" ∧ ∃ xs, SqL K H p xs) ∨ (T = "tuple" ∧ ∃ o, K.lookup p = some o ∧ o.cls = .type "tuple" ∧ o.dict = none) ∨
      (T = "dict" ∧ ((∃ kvs, H p = some (.dK kvs)) ∨ ∃ kvs, H p = some (.dT kvs))) ∨ (T = "set" ∧ ∃ S n, H p = some (.set S n))
  | _ => False
theorem tyV_is {pins : List (Addr × Obj)} {σ : St} {H : Hp} {s : Shared} {T : String} {x : V} {v : Value} (I : Inv X pins σ H s) (r : RelV x v) (ty : tyV X.K T x H) :
    s.TypeIs v T ∧ ∀ a, v = .ref a → ∃ ob, s.heap.get? a = some ob ∧ ob.dict = none := by
  cases x with
  | str z =>
    obtain ⟨t, rfl⟩ := r
    cases (show T = "str" from ty)
    exact ⟨typeIs_str s z t, fun _ e => nomatch e⟩
  | int i =>
    obtain ⟨t, rfl⟩ := r
    cases (show T = "int" from ty)
    exact ⟨typeIs_int s i t, fun _ e => nomatch e⟩
  | ref p =>
    cases r
    rcases ty with ⟨rfl, xs, hq⟩ | ⟨rfl, o, hk, hc, hd⟩ | ⟨rfl, hk⟩ | ⟨rfl, S, n, hk⟩
    · obtain ⟨its, _, pl, _⟩ := I.list hq
      refine ⟨pl.isList.typeIs, fun a e => ?_⟩
      cases e
      obtain ⟨o, n, e, c, hd, _⟩ := pl
      exact ⟨o, e, hd⟩
    · refine ⟨⟨o, I.kIn p o hk, hc⟩, fun a e => ?_⟩
      cases e
      exact ⟨o, I.kIn _ o hk, hd⟩
    · have z : ∃ o, s.heap.get? p = some o ∧ o.ExactDict := by
        rcases hk with ⟨kvs, hk⟩ | ⟨kvs, hk⟩
        · obtain ⟨_, _, _, _, o, _, _, e, ex, _⟩ := I.hok p _ hk
          exact ⟨o, e, ex⟩
        · obtain ⟨_, _, _, _, o, _, _, e, ex, _⟩ := I.hok p _ hk
          exact ⟨o, e, ex⟩
      obtain ⟨o, e, ex⟩ := z
      refine ⟨⟨o, e, ex.1⟩, fun a e2 => ?_⟩
      cases e2
      exact ⟨o, e, ex.2.1⟩
    · obtain ⟨o, _, _, _, e, ex, _⟩ := I.hok p _ hk
      refine ⟨⟨o, e, ex.1⟩, fun a e2 => ?_⟩
      cases e2
      exact ⟨o, e, ex.2.1⟩
  | _ => exact False.elim ty
def tBM (K : PySem.W.Frag) (T : String) (r : V → List V → Hp → VK → Prop) (to : TE) (t : TA) : TE := fun σ H Q => to σ H fun x H1 => tyV K T x H1 ∧ t σ H1 fun xs H2 => r x xs H2 Q
variable {o e : Expr} {es : List Expr} {to : TE} {t : TA} {name : Str} {apos cpos : Pos} {T id : String} {r : V → List V → Hp → VK → Prop}
theorem pe_bm (pa : PlainAttrs T) (slot : Slot T name id) (hty : typeOf (.builtin id) = pure (.type "method_descriptor")) (hm : MtR X id r) (ho : PE X o to) (ha : PA X (e :: es) t)
    (hbase : attributeBase o name X.env (eval o X.env) = eval o X.env := by rfl)
    (hfew : ((backTo cpos (starEach (e :: es) X.env)).all (fun x => !x.1) && (backToKw cpos (keywordEach [] X.env)).all (fun x => x.1.isSome)
      && decide ((e :: es).length + ([] : List Keyword).length + (if ([] : List Keyword).isEmpty then 0 else 1) < 30)) = true := by rfl)
    (hline : (apos.endLine == cpos.line) = true := by rfl) (hs : starEach (e :: es) X.env = (false, eval e X.env) :: starEach es X.env := by rfl) (hplain : (backTo cpos (starEach es X.env)).any (·.1) = false := by rfl) :
    PE X (.Call (.Attribute o name apos) (e :: es) [] cpos) (tBM X.K T r to t) := by
  intro pins s σ H Q I h
  refine wpAny_Call_method_late hbase hfew hline rfl (thn (ho pins s σ H _ I h) fun v s1 ⟨x, H1, I1, r1, ty, q1⟩ => ?_)
  obtain ⟨h1, h2⟩ := tyV_is I1 r1 ty
  refine ⟨T, id, pa, slot, hty, h1, h2, ?_⟩
  have hA := ha cpos pins s1 σ H1 _ I1 q1
  rw [hs] at hA ⊢
  refine Calls.callWith_builtin (by show (false || (backTo cpos (starEach es X.env)).any (·.1)) = false; rw [hplain] <;> rfl) (Calls.evalArgs_plain ?_)
  exact thn hA fun us s2 ⟨vs, H2, I2, r2, q2⟩ => hm pins s2 σ H2 x vs v us Q I2 r1 r2 q2
/- xs.append(e), list.index on a module's tuple .. are MtR facts of 06m -/
end
end L2

namespace L2
open PySem PySem.Spec PyProof.Rows

def MtM (X : Cx) (id : String) (r : V → List V → Hp → VK → Prop) : Prop :=
  ∀ (pins : List (Addr × Obj)) (s : Shared) (σ : St) (H : Hp) (x : V) (xs : List V) (v : Value) (us : List Value) (Q : VK), Inv X pins σ H s → RelV x v → Vals xs us → r x xs H Q →
    wpAny (model X.prog X.w) X.A (call (.builtin id) (v :: us)) (EP X pins σ Q) X.xe s

/-! ### lists of values -/
theorem Vals.one : ∀ {x : V} {us : List Value}, Vals [x] us → ∃ u, us = [u] ∧ RelV x u
  | _, _, .cons r .nil => ⟨_, rfl, r⟩
theorem Vals.two : ∀ {x y : V} {us : List Value}, Vals [x, y] us → ∃ u v, us = [u, v] ∧ RelV x u ∧ RelV y v
  | _, _, _, .cons r (.cons q .nil) => ⟨_, _, rfl, r, q⟩
theorem Vals.dropLast {xs : List V} {us : List Value} (h : Vals xs us) : Vals xs.dropLast us.dropLast := by
  induction h with
  | nil => exact .nil
  | cons r t ih =>
    cases t with
    | nil => exact .nil
    | cons q t' => exact .cons r ih
section
variable {X : Cx} {pins : List (Addr × Obj)} {σ : St} {H : Hp} {s : Shared} {l b : Addr} {xs ys zs : List V}

/-! ### the two steps: a tracked list is rewritten, a new list is laid -/
theorem Inv.lset {its its' : List Value} {n : Nat} {f : Array Value → Array Value} {t' : Nat} (I : Inv X pins σ H s) (hH : H l = some (.lst xs))
    (e : s.heap.get? l = some { cls := .type "list", data := .seq its.toArray n }) (hf : f its.toArray = its'.toArray) (hv : Vals ys its') (hz : ys.length ≤ sizeLine) :
    Inv X pins σ (upd H l (.lst ys)) { s with heap := s.heap.update l (Obj.mapSeq f), toks := t' } := by
  have q := PySem.IsL.update e f
  rw [hf] at q
  refine I.write (x := l) (e := l) (by rw [hH]; exact trivial) (.inl rfl) (fun b' u hb hu => (Heap.get?_update_other s.heap (Obj.mapSeq f) (Ne.symm hb)).trans hu) ⟨_, q⟩ ?_
  exact ⟨hz, its', _, hv, q⟩
theorem Inv.lnew {its : List Value} {t' : Nat} (I : Inv X pins σ H s) (hv : Vals ys its) (hz : ys.length ≤ sizeLine) :
    Inv X pins σ (upd H s.heap.objs.size (.lst ys)) { s with heap := s.heap.push { cls := .type "list", data := .seq its.toArray }, toks := t' } :=
  I.laid (fun _ _ q => Heap.get?_push_of_some _ q) (Nat.le_refl _) ⟨hz, its, 0, hv, Heap.get?_push_size _ rfl⟩
theorem Inv.fresh (I : Inv X pins σ H s) : H s.heap.objs.size = none := I.hok.fresh (Nat.le_refl _)
theorem Inv.lstM (I : Inv X pins σ H s) (hH : H l = some (.lst xs)) : xs.length ≤ sizeLine ∧ ∃ (its : List Value) (n : Nat), Vals xs its ∧ xs.length = its.length ∧ s.heap.get? l = some { cls := .type "list", data := .seq its.toArray n } := by
  obtain ⟨z, its, n, r, e⟩ := I.hok l _ hH
  exact ⟨z, its, n, r, r.length, e⟩

theorem notLongL {n : Nat} (h : n ≤ sizeLine) : Builtin.List.listTooLong n = false := by
  unfold Builtin.List.listTooLong
  exact decide_eq_false (by omega)
end

section
variable {X : Cx}

/-! ### methods -/
def rAppend : V → List V → Hp → VK → Prop := fun x vs H Q => ∃ l xs y, x = .ref l ∧ vs = [y] ∧ H l = some (.lst xs) ∧ xs.length < sizeLine ∧ Q .non (upd H l (.lst (xs ++ [y])))
theorem mt_append : MtM X "list.append" rAppend := by
  intro pins s σ H x vs v us Q I rx rv h
  obtain ⟨l, xs, y, rfl, rfl, hH, hz, q⟩ := h
  cases rx
  obtain ⟨u, rfl, ru⟩ := rv.one
  obtain ⟨z, its, n, r, hl, e⟩ := I.lstM hH
  refine call_meets F.slot_list_append ⟨_, e, rfl⟩ F.entry_list_append (F.args_list_append_2 _ _) (PySem.list_append l its.toArray n u (by rw [List.size_toArray]; omega)) ⟨e, ?_⟩
  refine ⟨.non, _, I.lset (its' := its ++ [u]) hH e (by simp) (r.append (.cons ru .nil)) ?_, rfl, q⟩
  rw [List.length_append, List.length_singleton]
  omega

def rExtend : V → List V → Hp → VK → Prop := fun x vs H Q => ∃ l b xs zs, x = .ref l ∧ vs = [.ref b] ∧ H l = some (.lst xs) ∧ H b = some (.lst zs) ∧ xs.length + zs.length ≤ sizeLine ∧ Q .non (upd H l (.lst (xs ++ zs)))
theorem mt_extend : MtM X "list.extend" rExtend := by
  intro pins s σ H x vs v us Q I rx rv h
  obtain ⟨l, b, xs, zs, rfl, rfl, hH, hB, hz, q⟩ := h
  cases rx
  obtain ⟨u, rfl, ru⟩ := rv.one
  cases ru
  obtain ⟨z, its, n, r, hl, e⟩ := I.lstM hH
  obtain ⟨z2, its2, n2, r2, hl2, e2⟩ := I.lstM hB
  have hsz : its.toArray.size + its2.toArray.size ≤ sizeLine := by rw [List.size_toArray, List.size_toArray]; omega
  have hlong : ¬ (!its.toArray.isEmpty && Builtin.List.listTooLong (its.toArray.size + its2.toArray.size)) = true := by
    rw [notLongL hsz, Bool.and_false]
    exact Bool.false_ne_true
  refine call_meets F.slot_list_extend ⟨_, e, rfl⟩ F.entry_list_extend (F.args_list_extend_2 _ _)
    (AutoSeq1.list_extend_list_list_0 l its.toArray n b its2.toArray n2 hlong (by rw [List.size_toArray]; omega) (by omega)) ⟨e, e2, ?_⟩
  refine ⟨.non, _, I.lset (its' := its ++ its2) hH e (by simp) (r.append r2) ?_, rfl, q⟩
  rw [List.length_append]
  omega

/-! ### list + list, list += list, list * int -/
def rCat : R2 := fun x y H Q => ∃ l b xs zs, x = .ref l ∧ y = .ref b ∧ H l = some (.lst xs) ∧ H b = some (.lst zs) ∧ xs.length + zs.length ≤ sizeLine ∧ ∀ p, H p = none → Q (.ref p) (upd H p (.lst (xs ++ zs)))
theorem op_cat : OpR X (binaryOp .Add) rCat := by
  intro pins s σ H x y v u Q I rx ry h
  obtain ⟨l, b, xs, zs, rfl, rfl, hH, hB, hz, q⟩ := h
  cases rx
  cases ry
  obtain ⟨z, its, n, r, hl, e⟩ := I.lstM hH
  obtain ⟨z2, its2, n2, r2, hl2, e2⟩ := I.lstM hB
  refine PySem.P.add_list e e2 ?_ (by rw [List.size_toArray, List.size_toArray]; omega)
  have ea : its.toArray ++ its2.toArray = (its ++ its2).toArray := by simp
  rw [ea]
  exact ⟨.ref _, _, I.lnew (t' := s.toks) (r.append r2) (by rw [List.length_append]; omega), rfl, q _ I.fresh⟩
/-! ### del xs[i] -/
end

/-! ### xs[a:b] = ys -/
section
variable {prog : Program} {w : World} {A : Around} {E : Value → Shared → Prop} {s : Shared}
end

section
variable {X : Cx}
end
end L2

namespace Att
open PySem PySem.W PySem.Calls PyProof.Rows

/-! ### the script -/
theorem ints_of_wellAll {P : Params} {h : Heap} : ∀ (ns : List Int) (vs : List Value), WellAll P h vs (ns.map WData.int) → IntsAre vs ns := by
  intro ns
  induction ns with
  | nil =>
    intro vs w
    rw [List.map_nil] at w
    cases w
    exact .nil
  | cons n ns ih =>
    intro vs w
    rw [List.map_cons] at w
    cases w with
    | cons a b =>
      cases a
      exact .cons _ _ (ih _ b)

theorem script_of {l : OpenLaw} {n : Nat} (hn : l.most = some n) {P : Params} {h : Heap} {args : List WData} {vals : List Value}
    (hpre : l.row.toRowW.claim.pre args = true) (hwl : WellAll P h vals args) :
    ∃ a vs ns, vals = [Value.ref a] ∧ args = [WData.list (ns.map WData.int)] ∧ h.get? a = some { cls := .type "list", data := .seq vs.toArray } ∧ IntsAre vs ns ∧ ns.length ≤ n := by
  have hsh : WShape.hasAll [] args [.list .int] = true := (pre_splitW hpre).1
  have hc : l.pre.holds [] { args := args } = true := (pre_splitW hpre).2
  obtain ⟨d, r, rfl, h1, h2⟩ := hasAllW_cons hsh
  obtain rfl := hasAllW_nil h2
  obtain ⟨xs, rfl, h3⟩ := hasW_list h1
  obtain ⟨ns, rfl⟩ := items_int h3
  have hlen : ns.length ≤ n := by
    unfold OpenLaw.pre at hc
    have h4 : (WTm.not (.lt (.lit (.int (n : Int))) (.len (.arg 0)))).holds [] { args := [.list (ns.map .int)] } = true := by
      have h4 := (holds_andW hc).1
      rw [hn] at h4
      exact h4
    have h5 := condW_of h4 (w_not (w_lt w_lit (w_len_list (w_arg rfl))))
    rw [List.length_map] at h5
    refine Nat.le_of_not_lt fun q => ?_
    have q' : (n : Int) < ((ns.length : Nat) : Int) := by omega
    first
      | (rw [decide_eq_true q'] at h5; exact absurd h5 (by decide))
      | (simp at h5; omega)
  cases hwl with
  | cons w1 w2 =>
    cases w2
    cases w1 with
    | list ho hall => exact ⟨_, _, ns, rfl, rfl, ho, ints_of_wellAll ns _ hall, hlen⟩

theorem post_true (l : OpenLaw) (args : List WData) : l.row.toRowW.claim.post args (.bool true) args = true :=
  postW_of (r := l.row.toRowW) (X := (true == true))
    (show WShape.has [] (.bool true) .bool = true by first | rfl | decide | simp [WShape.has, WShape.arms, WShape.armsAll])
    (show (WTm.eq .res (.lit (.bool true))).value [] { args := args, res := some (.bool true), after := args } = some (.bool (true == true)) from w_eq_bool (w_res rfl) w_lit) rfl

/-! ### the attachment: holds_open's last premise (the goal 'hc' behind k_head) from a wpAny of the law's body -/
/-- the same from a codeAny of the CALL (for a layer whose function contracts speak of calls) -/
theorem attach_call {l : OpenLaw} {n : Nat} {q : Program} {loose : List Str} {XP : (Str → Option Value) → Heap → Prop} {YP : World → Heap → Prop} {d : DefRec}
    (hn : l.most = some n) (hdf : d.params.defaults = [])
    (call : ∀ (w : World) (s₀ s₁ : Shared) (mg mb : Str → Option Value) (fa : Addr) (o : Obj) (pm cd doc : Value) (a : Addr) (vs : List Value) (ns : List Int),
      Ground q loose [] XP w s₀ mg mb s₁.heap → YP w s₁.heap →
      s₁.heap.get? fa = some o → o.data = .func (docDef d.name d.params d.body d.scope pm cd doc) → s₁.heap.CodeRec cd d.name → mg d.name = some (.ref fa) →
      s₁.heap.get? a = some { cls := .type "list", data := .seq vs.toArray } → IntsAre vs ns → ns.length ≤ n → s₁.gens = #[] →
      codeAny (model l.prog w) callerA (.call (.ref fa) ⟨[.ref a], []⟩) (fun r s' => r = .ok (.ret (.bool true)) ∧ OldK s₁.heap s'.heap ∧ s'.os = s₁.os ∧ AllBare s'.gens) s₁) :
    WalkO q loose XP YP l.row.toRowW d [] (fun f vs => PySem.call f vs) := by
  intro w s₀ s₁ mg mb G Y fa o pm cd doc dV kV ho hd hcd hD hmg hg args vals as hpre hlay hrd hwl hlo
  obtain rfl : dV = .none := Dflts.none hD hdf
  obtain rfl : kV = .none := Dflts.noKw hD
  obtain ⟨a, vs, ns, rfl, rfl, hobj, hints, hlen⟩ := script_of hn hpre hwl
  refine enter_call (codeAny_mono (call w s₀ s₁ mg mb fa o pm cd doc a vs ns G Y ho (fd_plain hd) hcd hmg hobj hints hlen hg) fun r s' hq => ?_)
  obtain ⟨rfl, h2, h3, h4⟩ := hq
  exact ⟨.inl ⟨.bool true, .bool true, [], rfl, fun _ => rfl, .bool true, post_true l _, fun _ => ⟨List.Pairwise.nil, fun _ hm => (nomatch hm)⟩⟩, h2, h3, h4⟩

/-! ### rules over ANY heap (no ledger) from facts about the written part K: the library's own take a ledger (News) for what they write -/
section
variable {prog : Program} {w : World} {A : Around} {E : Value → Shared → Prop} {s : Shared} {K : Frag}

/-! the whole heap as the ledger: makes every rule that writes through a ledger a rule over any heap -/
def ledger (h : Heap) (L d : Addr) : List (Addr × Obj) := (List.range h.objs.size).filterMap fun a => if a = L ∨ a = d then none else (h.get? a).map fun o => (a, o)
end
end Att

namespace L2
open PySem PySem.Spec PyProof.Rows

theorem vals_ints : ∀ {vs : List Value} {ns : List Int}, IntsAre vs ns → Vals (ns.map V.int) vs
  | _, _, .nil => .nil
  | _, _, .cons n t h => .cons ⟨t, rfl⟩ (vals_ints h)

/-- nothing is tracked but the script, known to the object (or it is an object of the module) -/
def Only (H : Hp) : Prop := ∀ b, H b = none ∨ ∃ o xs, H b = some (.frz o (.lst xs))

/-- THE HEAD: the law's promise, at the heap behind the top. F, the promise of the law's def, may use that base is part of the heap (so K.In base, base.Ns mainGlobals mg stand in Mod) -/
theorem law_call {P : Program} {w : World} {K : PySem.W.Frag} {mg mb : Str → Option Value} {CX : CXT} {k : Nat} {fa a : Addr} {fd : FuncData} {x : Str} {sp : Sp} {s₁ : Shared} {vs : List Value} {ns : List Int}
    (KX : K.In s₁.heap) (hns : s₁.heap.Ns mainGlobals mg) (hb : s₁.heap.Ns builtinsNs mb) (hbb : ∀ x : Str, x ≠ "__name__" → mb x = bootBuiltins x) (hlim : s₁.heap.NoLimit) (hg : s₁.gens = #[])
    (ha : s₁.heap.get? a = some { cls := .type "list", data := .seq vs.toArray }) (hi : IntsAre vs ns) (hl : ns.length ≤ sizeLine) (hr : Room k callerA)
    (F : ∀ base : Heap, K.In base → base.Ns mainGlobals mg → FnOk P w K mg base CX k fa fd [x] sp) (hbind : ∀ (s : Shared) (u : Value), BindsTo s fd ⟨[u], []⟩ [(x, u)])
    (hsp : ∀ H : Hp, Only H → SqL K H a (ns.map V.int) → sp [.ref a] H (fun v _ => v = .bl true) fun _ _ _ => False)
    (hCX : ∀ H e s', CX [] H s₁ (fun _ _ _ => False) e s' → False) :
    codeAny (model P w) callerA (.call (.ref fa) ⟨[.ref a], []⟩) (fun r s' => r = .ok (.ret (.bool true)) ∧ OldK s₁.heap s'.heap ∧ s'.os = s₁.os ∧ AllBare s'.gens) s₁ := by
  have rv := vals_ints hi
  have lenV := hi.length
  -- from an abstract heap in which nothing but the script may be tracked
  have core : ∀ H : Hp, Only H → SqL K H a (ns.map V.int) → HOk P w H s₁.heap → (∀ b, H b ≠ none → b = a) → (H a ≠ none → K.lookup a = none) →
      codeAny (model P w) callerA (.call (.ref fa) ⟨[.ref a], []⟩) (fun r s' => r = .ok (.ret (.bool true)) ∧ OldK s₁.heap s'.heap ∧ s'.os = s₁.os ∧ AllBare s'.gens) s₁ := by
    intro H hO hS hok hA hK
    have base_of : ∀ {b : Addr} {o : Obj}, s₁.heap.get? b = some o → H b = none → (hidT s₁.heap H).get? b = some o := fun e n => hidT_get e n
    have noA : ∀ {b : Addr} {o : Obj} {es : Array DictEntry} {ep : Nat}, s₁.heap.get? b = some o → o.data = .dict es ep → H b = none := fun {b o es ep} e d => by
      cases q : H b with
      | none => rfl
      | some u =>
        have e' : b = a := hA b (by rw [q]; simp)
        subst e'
        rw [ha] at e; cases e
        have d' : Data.seq vs.toArray _ = Data.dict es ep := d
        cases d'
    have nsK : ∀ {b : Addr} {m : Str → Option Value}, s₁.heap.Ns b m → (hidT s₁.heap H).Ns b m := fun {b m} ⟨o, es, ep, e, d, r⟩ => ⟨o, es, ep, base_of e (noA e d), d, r⟩
    have hKb : K.In (hidT s₁.heap H) := fun b o e => base_of (KX b o e) (by
      cases q : H b with
      | none => rfl
      | some u =>
        have e' : b = a := hA b (by rw [q]; simp)
        subst e'
        rw [hK (by rw [q]; simp)] at e; cases e)
    have hM : Mod K mg (hidT s₁.heap H) := ⟨hKb, nsK hns, ⟨mb, nsK hb, hbb⟩, let ⟨mc, h1, h2⟩ := hlim; ⟨mc, nsK h1, h2⟩⟩
    have e0 : Env0 P w K mg (hidT s₁.heap H) callerA [] s₁ H := ⟨rfl, hM, fun b o e => of_hidT e, Nat.le_of_eq (hidT_size _ _), trivial, fun b hb => absurd (show b ∈ ([] : List Addr) from hb) (by simp), hok, .of_eq hg⟩
    refine codeAny_mono ((F _ hKb (nsK hns)).run callerA [] s₁ H ⟨[.ref a], []⟩ [.ref a] [.ref a] _ _ hr e0 (hbind s₁ (.ref a)) (.cons rfl .nil) (hsp H hO hS)) fun r s' h => ?_
    cases r with
    | error e => exact (hCX H e s' h).elim
    | ok fl =>
      cases fl with
      | next => exact False.elim h
      | brk => exact False.elim h
      | cont => exact False.elim h
      | ret u =>
        obtain ⟨v, H', os, bare, un, hok', r', q⟩ := h
        have q' : v = .bl true := q
        subst q'
        obtain rfl : u = Value.bool true := r'
        refine ⟨rfl, OldK.of_keep fun b o e => ?_, os, bare⟩
        cases q : H b with
        | none => exact un.keep b o e q (by intro z; exact absurd (show b ∈ ([] : List Addr) from z) (by simp)) (by simp)
        | some u =>
          rcases hO b with z | ⟨ob, xs, z⟩
          · rw [q] at z; cases z
          · have z2 := un.frzs b ob _ z
            obtain ⟨e1, _⟩ := hok b _ z
            obtain ⟨e2, _⟩ := hok' b _ z2
            rw [e] at e1; cases e1
            exact e2
  cases hk : K.lookup a with
  | some o =>
    -- the script is one of the module's own objects
    have e := KX a o hk
    rw [ha] at e
    cases e
    refine core (fun _ => none) (fun _ => .inl rfl) (.inr ⟨_, vs.toArray, _, hk, rfl, rfl, rfl, by rw [List.size_toArray, lenV]; exact hl, by simpa using rv⟩) (fun b u z => by have z' : (none : Option HO) = some u := z; cases z') (fun b z => absurd rfl z) fun z => absurd rfl z
  | none =>
    refine core (fun b => if b = a then some (.frz { cls := .type "list", data := .seq vs.toArray } (.lst (ns.map V.int))) else none) (fun b => ?_) (.inl (.inr ⟨{ cls := .type "list", data := .seq vs.toArray }, if_pos rfl⟩)) (fun b u z => ?_) (fun b z => ?_) fun _ => hk
    · by_cases hb : b = a
      · exact .inr ⟨_, _, if_pos hb⟩
      · exact .inl (if_neg hb)
    · by_cases hb : b = a
      · have z' := (if_pos hb).symm.trans z
        cases z'
        subst hb
        exact ⟨ha, by rw [List.length_map]; exact hl, vs, _, rv, ha⟩
      · have z' := (if_neg hb).symm.trans z
        cases z'
    · by_cases hb : b = a
      · exact hb
      · exact absurd (if_neg hb) z
end L2

namespace L2
open PySem PySem.Spec PyProof.Rows

/-- the goal that k_head leaves (case hc), from the law's promise. F gives the function object fd (K's own) once, then the promise over every base -/
theorem walk_of {l : PySem.W.OpenLaw} {n k : Nat} {q : Program} {loose : List Str} {XP : (Str → Option Value) → Heap → Prop} {YP : World → Heap → Prop} {d : DefRec} {K : Params → PySem.W.Frag} {CX : World → CXT} {sp : World → Sp} {x : Str}
    (hn : l.most = some n) (hn2 : n ≤ sizeLine) (hdf : d.params.defaults = []) (hr : Room k callerA)
    (hY : ∀ (w : World) (h : Heap), YP w h → (K w.params).In h)
    (F : ∀ (w : World) (mg : Str → Option Value) (fa : Addr) (h : Heap), (K w.params).In h → h.Ns mainGlobals mg → mg d.name = some (.ref fa) →
      ∃ fd : FuncData, (∀ (s : Shared) (u : Value), BindsTo s fd ⟨[u], []⟩ [(x, u)]) ∧
        ∀ base : Heap, (K w.params).In base → base.Ns mainGlobals mg → FnOk l.prog w (K w.params) mg base (CX w) k fa fd [x] (sp w))
    (hsp : ∀ (w : World) (H : Hp) (a : Addr) (ns : List Int), ns.length ≤ n → Only H → SqL (K w.params) H a (ns.map V.int) → sp w [.ref a] H (fun v _ => v = .bl true) fun _ _ _ => False)
    (hCX : ∀ (w : World) (H : Hp) (s : Shared) (e : Value) (s' : Shared), CX w [] H s (fun _ _ _ => False) e s' → False) :
    PySem.W.WalkO q loose XP YP l.row.toRowW d [] (fun f vs => PySem.call f vs) := by
  refine Att.attach_call hn hdf fun w s₀ s₁ mg mb fa o pm cd doc a vs ns G Y ho hd hcd hmg hobj hints hlen hg => ?_
  have KX := hY w _ Y
  obtain ⟨fd, hb, hF⟩ := F w mg fa _ KX G.T.g hmg
  exact law_call KX G.T.g G.T.b G.T.builtins G.T.nolimit hg hobj hints (Nat.le_trans hlen hn2) hr hF hb (fun H hO hS => hsp w H a ns hlen hO hS) fun H e s' => hCX w H s₁ e s'
end L2

/-! SHORT WORDS over the layer: a def of the text, its body, what a loop and a test want. -/
namespace L2
open PySem PySem.Spec PyProof.Rows

/-! ### the text by places -/
def defArgs (s : Stmt) : Arguments := match s with
  | .FunctionDef _ a _ _ _ _ _ _ _ _ => a
  | _ => { posonlyargs := [], args := [], vararg := none, kwonlyargs := [], kw_defaults := [], kwarg := none, defaults := [] }
def defBody (s : Stmt) : List Stmt := match s with
  | .FunctionDef _ _ b _ _ _ _ _ _ _ => b
  | _ => []
def defScope (s : Stmt) : Scope := match s with
  | .FunctionDef _ _ _ _ _ _ sc _ _ _ => sc
  | _ => { kind := .function, names := [], isGenerator := false, isCoroutine := false }

/-! ### no exception leaves a def -/
abbrev CX0 : CXT := fun _ _ _ _ _ _ => False
abbrev E0 : XK := fun _ _ _ => False
theorem pass0 {X : Cx} : Passes CX0 X E0 := fun _ _ _ _ _ _ _ h => h.elim

/-! ### a def (or method) of the text as it stands behind the top -/
structure Fun (K : PySem.W.Frag) (x qual : Str) (st : Stmt) (f : Addr) (fd : FuncData) : Prop where
  ex : ∃ (oc : Value) (od : Option Addr) (kV doc pm : Value) (an : Option Addr) (cdv ct : Value) (osl : Array (Option Value)),
    fd = PySem.W.fnOf x qual (defArgs st) (defBody st) (defScope st) .none kV doc pm an cdv ct ∧ K.lookup f = some ⟨oc, od, .func fd, osl⟩ ∧ PySem.W.codeIn K cdv qual = true
  kp : PySem.W.keepIn K (.ref f) = true
section
variable {P : Program} {w : World} {K : PySem.W.Frag} {mg : Str → Option Value} {base : Heap}
/-- THE RULE for a def: its body as a term of rules, and the reading of that term -/
theorem Fun.ok {x qual : Str} {st : Stmt} {f : Addr} {fd : FuncData} {N ps : List Str} {k : Nat} {sp : Sp} (F : Fun K x qual st f fd) (S : FnScope N ps (defScope st)) (len : ∀ vs H Q E, sp vs H Q E → vs.length = ps.length)
    (hbody : ∀ (cdv : Value) (A : Around) (outer : List Env) (s : Shared) (H : Hp) (vs : List V) (Q : VK) (E : XK), Room k (A.deeper (envOfC qual (defScope st) s.heap.objs.size f cdv)) → sp vs H Q E →
      ∃ t, PSs (cxOf CX0 P w K mg base N qual (defScope st) f cdv A outer s H E).nox (defBody st) t ∧ t { nx := fun _ H' => Q .non H', rt := Q } (start N vs) H) : FnOk P w K mg base CX0 (k + 1) f fd ps sp := by
  obtain ⟨oc, od, kV, doc, pm, an, cdv, ct, osl, rfl, lk, hcd⟩ := F.ex
  refine fn_of lk hcd S len fun A outer s H vs Q E hr hsp => ?_
  obtain ⟨t, h, q⟩ := hbody cdv A outer s H vs Q E hr hsp
  exact ⟨t, h.nox, q⟩
/-- how its arguments bind (no defaults): h is «fun _ _ _ _ _ _ us hl => match us, hl with | [_, _], _ => rfl», one _ a parameter -/
theorem Fun.binds {x qual : Str} {st : Stmt} {f : Addr} {fd : FuncData} {ps : List Str} (F : Fun K x qual st f fd)
    (h : ∀ (kV doc pm : Value) (an : Option Addr) (cdv ct : Value) (us : List Value), us.length = ps.length → bindArgs (PySem.W.fnOf x qual (defArgs st) (defBody st) (defScope st) .none kV doc pm an cdv ct) ⟨us, []⟩ = pure (ps.zip us)) : Binds K fd ps [] := by
  obtain ⟨oc, od, kV, doc, pm, an, cdv, ct, osl, rfl, lk, hcd⟩ := F.ex
  exact .all (h kV doc pm an cdv ct)
theorem fun_mk {x qual : Str} {st : Stmt} {f : Addr} {oc : Value} {od an : Option Addr} {osl : Array (Option Value)} {kV doc pm cdv ct : Value} (l : K.lookup f = some ⟨oc, od, .func (PySem.W.fnOf x qual (defArgs st) (defBody st) (defScope st) .none kV doc pm an cdv ct), osl⟩)
    (c : PySem.W.codeIn K cdv qual = true) (k : PySem.W.keepIn K (.ref f) = true) : Fun K x qual st f (PySem.W.fnOf x qual (defArgs st) (defBody st) (defScope st) .none kV doc pm an cdv ct) := ⟨⟨oc, od, kV, doc, pm, an, cdv, ct, osl, rfl, l, c⟩, k⟩
end
/-! ### expressions in short: the name that stands in the i-th slot -/
section
variable {X : Cx}
theorem pv (i : Nat) {x : Str} {pos : Pos} (hN : X.N[i]? = some x := by rfl) (hv : Vis X.env.scope x := by first | exact Or.inl rfl | exact Or.inr (Or.inl rfl) | exact Or.inr (Or.inr rfl)) (hd : (x == ("__debug__" : Str)) = false := by decide)
    (hcd : (x == ("__classdict__" : Str)) = false := by decide) : PE X (.Name x pos) (tVar i) := pe_var hN hv hd hcd
end

/-! ### tests -/
theorem iteF {A B : Prop} (h : B) : if false = true then A else B := by
  rw [if_neg Bool.false_ne_true]
  exact h
theorem iteT {A B : Prop} (h : A) : if true = true then A else B := by
  rw [if_pos rfl]
  exact h
theorem ite2 {c A B : Prop} [Decidable c] (h1 : c → A) (h2 : ¬ c → B) : if c then A else B := by
  by_cases h : c
  · rw [if_pos h]
    exact h1 h
  · rw [if_neg h]
    exact h2 h
/-! ### heaps -/
/-- all that was tracked is as it was -/
def Same (H H' : Hp) : Prop := ∀ b o, H b = some o → H' b = some o
theorem Same.refl (H : Hp) : Same H H := fun _ _ h => h
theorem Same.trans {H H1 H2 : Hp} (a : Same H H1) (b : Same H1 H2) : Same H H2 := fun c o h => b c o (a c o h)
theorem Same.free {H H' : Hp} (e : Same H H') {l : Addr} (h : H' l = Option.none) : H l = Option.none := by
  cases q : H l with
  | none => rfl
  | some o =>
    rw [e l o q] at h
    cases h
theorem Same.seq {K : PySem.W.Frag} {H H' : Hp} {a : Addr} {xs : List V} (e : Same H H') (h : SqL K H a xs) : SqL K H' a xs := by
  rcases h with (h | ⟨o, h⟩) | h
  · exact .inl (.inl (e _ _ h))
  · exact .inl (.inr ⟨o, e _ _ h⟩)
  · exact .inr h

end L2


set_option maxHeartbeats 4000000
namespace L2
open PySem PySem.Spec PyProof.Rows
/-! ### a list comprehension of one clause, no test -/
def clOf (env : Env) (ys : List Str) : List (Str × Addr) := ys.map fun y => (y, (env.cells.lookup y).getD 0)
def inS (σ : St) (is : List Nat) : St := is.map fun i => (σ[i]?).join
/-- the context of a comprehension's own block -/
def compCx (X : Cx) (N' : List Str) (scope : Scope) (cl : List (Str × Addr)) (fp : List Addr) (s₁ : Shared) (H₁ : Hp) (C : Addr) : Cx where
  prog := X.prog
  w := X.w
  K := X.K
  mg := X.mg
  base := X.base
  A := X.A
  N := N'
  s₀ := s₁
  H₀ := H₁
  env := compEnvC scope cl C X.env
  outer := X.stack
  stack := X.stack
  ex := fp
  fn := fun _ => false
  calm := true
  pn := []
  xe := fun _ _ => False

theorem clOf_lookup {env : Env} : ∀ {ys : List Str}, (ys.all fun y => (env.cells.lookup y).isSome) = true → ∀ (x : Str) (c : Addr), (clOf env ys).lookup x = some c → env.cells.lookup x = some c
  | [], _, _, _, h => by simp [clOf] at h
  | y :: ys, ha, x, c, h => by
    rw [List.all_cons, Bool.and_eq_true] at ha
    have ih := clOf_lookup (env := env) ha.2 x c
    unfold clOf at h ih
    rw [List.map_cons, List.lookup_cons] at h
    cases e : x == y with
    | true =>
      rw [e] at h
      have exy : x = y := beq_iff_eq.mp e
      subst exy
      obtain ⟨c', hc'⟩ := Option.isSome_iff_exists.mp ha.1
      rw [hc'] at h ⊢
      exact h
    | false =>
      rw [e] at h
      exact ih h
theorem clOf_has {env : Env} : ∀ {ys : List Str} {x : Str}, x ∈ ys → ∃ c, (clOf env ys).lookup x = some c
  | [], _, h => nomatch h
  | y :: ys, x, h => by
    unfold clOf
    rw [List.map_cons, List.lookup_cons]
    cases e : x == y with
    | true => exact ⟨_, rfl⟩
    | false =>
      have hx : x ∈ ys := by
        rcases List.mem_cons.mp h with z | z
        · rw [z] at e; simp at e
        · exact z
      exact clOf_has (env := env) hx
/-- a name that is a cell or free in the relabelled scope is free (or a cell) in the scope -/
theorem relabel_mem {scope : Scope} {env : Env} {x : Str} {k : NameKind} (h : (relabel scope env).names.lookup x = some k) (hk : k = .cell ∨ k = .free) : ∃ k', (x, k') ∈ scope.names ∧ (k' = .cell ∨ k' = .free) := by
  have hm := PySem.mem_of_lookup h
  unfold relabel at hm
  obtain ⟨⟨n, k0⟩, h0, e⟩ := List.mem_map.mp hm
  dsimp only at e
  split at e
  · rename_i hc
    cases e
    refine ⟨k0, h0, .inr ?_⟩
    rw [Bool.and_eq_true, Bool.and_eq_true] at hc
    exact beq_iff_eq.mp hc.1.1
  · cases e
    exact ⟨k, h0, hk⟩

structure CompSc (X : Cx) (scope : Scope) (xs ys : List Str) (is : List Nat) : Prop where
  kind : scope.kind = .function
  clos : closureFor scope X.env = pure (clOf X.env ys)
  cells : (ys.all fun y => (X.env.cells.lookup y).isSome) = true
  cov : (scope.names.all fun y => decide (y.2 ≠ .cell) && (decide (y.2 ≠ .free) || ys.contains y.1)) = true
  names : (scope.names.all fun y => decide (y.2 ≠ .local) || decide (scope.names.lookup y.1 = some .local)) = true
  slots : is.map (fun i => X.N[i]?) = ys.map some
  kX : (ys.all fun y => decide (X.env.kindOf y = some .cell)) = true
  kY : (ys.all fun y => decide ((relabel scope X.env).names.lookup y = some .cell)) = true

section
variable {X : Cx} {pins : List (Addr × Obj)} {σ : St} {H : Hp} {s : Shared} {scope : Scope} {xs ys : List Str} {is : List Nat}
theorem compCx_ok (I : Inv X pins σ H s) (hc : X.calm = true) (S : CompSc X scope xs ys is) {N' : List Str} {fp : List Addr} {C : Addr} (hC : s.heap.objs.size ≤ C) (hf : ∀ b ∈ fp, FpOk X pins H b) (hfl : ∀ b ∈ fp, b < s.heap.objs.size) :
    (compCx X N' scope (clOf X.env ys) fp s H C).Ok where
  mod := I.ok.mod
  kind := S.kind
  glob := I.ok.glob
  blt := I.ok.blt
  above := hC
  inj := fun x y c h1 h2 => I.ok.inj x y c (clOf_lookup S.cells x c h1) (clOf_lookup S.cells y c h2)
  has := fun x hx => by
    have hx' : (relabel scope X.env).names.lookup x = some .cell ∨ (relabel scope X.env).names.lookup x = some .free := hx
    have : ∃ k', (x, k') ∈ scope.names ∧ (k' = .cell ∨ k' = .free) := by
      rcases hx' with z | z
      · exact relabel_mem z (.inl rfl)
      · exact relabel_mem z (.inr rfl)
    obtain ⟨k', hm, hk⟩ := this
    have cv := List.all_eq_true.mp S.cov _ hm
    rw [Bool.and_eq_true, Bool.or_eq_true] at cv
    rcases hk with z | z
    · exact absurd z (of_decide_eq_true cv.1)
    · rcases cv.2 with q | q
      · exact absurd z (of_decide_eq_true q)
      · exact clOf_has (List.contains_iff_mem.mp q)
  cab := fun x c h _ => by cases h
  hd := fun _ => I.ok.hd hc
  frames := I.ok.frames
  stk := .inl rfl
  exf := fun b hb => ⟨Nat.ne_of_lt (Nat.lt_of_lt_of_le (hfl b hb) hC), fun x c h => (hf b hb).2.2.2.2.1 x c (clOf_lookup S.cells x c h)⟩
  bs := fun b o e => I.bs b o e
  bsz := Nat.le_trans I.ok.bsz I.sz
  noex := fun b o e hb => by
    rcases (hf b hb).2.2.2.1 with z | z
    · exact I.ok.noex b o e z
    · exact absurd (Nat.lt_of_lt_of_le (Heap.lt_size e) (Nat.le_trans I.ok.bsz z)) (Nat.lt_irrefl _)
  exfs := fun b hb hs => (List.mem_cons.mp (I.stkSub b hs)).elim (hf b hb).2.1 (hf b hb).2.2.1
  funs := I.stack
  frf := fun b hb => I.stkFree b hb

theorem inS_get {N : List Str} : ∀ {is : List Nat} {ys : List Str}, is.map (fun i => N[i]?) = ys.map some → ∀ (j : Nat) (y : Str) (v : V), ys[j]? = some y → (inS σ is)[j]? = some (some v) → ∃ i : Nat, N[i]? = some y ∧ σ[i]? = some (some v)
  | [], [], _, _, _, _, h, _ => by simp at h
  | [], _ :: _, h, _, _, _, _, _ => by simp at h
  | _ :: _, [], h, _, _, _, _, _ => by simp at h
  | i :: is, y0 :: ys, h, 0, y, v, h1, h2 => by
    rw [List.map_cons, List.map_cons] at h
    have h0 := (List.cons.inj h).1
    simp only [List.getElem?_cons_zero, Option.some.injEq] at h1
    subst h1
    refine ⟨i, h0, ?_⟩
    unfold inS at h2
    simp only [List.map_cons, List.getElem?_cons_zero, Option.some.injEq] at h2
    exact Option.join_eq_some_iff.mp h2
  | i :: is, y0 :: ys, h, j + 1, y, v, h1, h2 => by
    rw [List.map_cons, List.map_cons] at h
    refine inS_get (is := is) (ys := ys) (List.cons.inj h).2 j y v (by simpa using h1) ?_
    unfold inS at h2 ⊢
    simpa using h2

abbrev lobj (its : List Value) (n : Nat) : Obj := { cls := .type "list", data := .seq its.toArray n }
theorem lobj_cell (its : List Value) (n : Nat) (v : Option Value) : (lobj its n).data ≠ .cell v := fun z => by cases z

/-- a loop over a comprehension's turns, whatever its target -/
theorem compLoop_go {prog : Program} {w : World} {A : Around} {R : Result → Shared → Prop} {s : Shared} {elt target iter : Expr} {scope : Scope} {pos : Pos} {it acc : Value} {env : Env} (I : Nat → Shared → Prop)
    (turn : ∀ n s, I n s → wpAny (model prog w) A (pyNext it) (fun r s₁ => match r with
      | none => R (.ok .next) s₁
      | some v => wpAny (model prog w) A (letOwnedTupleGo target it v) (fun _ s₁' => wpAny (model prog w) A (assign target env v) (fun _ s₂ =>
          wpAny (model prog w) A (eval elt env) (fun x s₄ =>
              wpAny (model prog w) A (call (.builtin "list.append") [acc, x]) (fun _ s₅ => ∃ m, m < n ∧ I m s₅) (notedBy (model prog w) A env fun e s' => R (.error e) s') s₄) (notedBy (model prog w) A env fun e s' => R (.error e) s') s₂)
          (notedBy (model prog w) A env fun e s' => R (.error e) s') s₁') (notedBy (model prog w) A env fun e s' => R (.error e) s') s₁) (notedBy (model prog w) A env fun e s' => R (.error e) s') s)
    (n : Nat) (h : I n s) :
    codeAny (model prog w) A (.compLoop (.ListComp elt [⟨target, iter, [], 0⟩] scope pos) 0 it acc env) R s := by
  refine codeAny_loop rfl I (fun n s hI => ?_) n h
  show wpAny _ A ((compTurn (.ListComp elt [⟨target, iter, [], 0⟩] scope pos) 0 it acc env).onRaise (fun x => do noteFrame x env; theTreesLotGoes x)) _ _ s
  refine wpAny_noted ?_
  rw [compTurn_list]
  refine wpAny_bind (wpAny_standAt (wpAny_bind (wpAny_mono (turn n s hI) (fun r s₁ h₁ => ?_) fun _ _ h' => h')))
  cases r with
  | none => exact wpAny_pure h₁
  | some v =>
    refine wpAny_bind (wpAny_mono h₁ (fun _ s₁' h₁' => ?_) fun _ _ h' => h')
    refine wpAny_bind (wpAny_mono h₁' (fun _ s₂ h₂ => wpAny_bind (wpAny_tests_nil ?_)) fun _ _ h' => h')
    exact wpAny_bind (wpAny_bind (wpAny_mono h₂ (fun x s₄ h₄ => wpAny_bind (wpAny_mono h₄ (fun _ s₅ h₅ => wpAny_pure (wpAny_pure ⟨rfl, h₅⟩)) fun _ _ h' => h')) fun _ _ h' => h'))

/-- the reading: W by the turn, what is made, the block's names, the heap -/
def CompR (J : It) (k : Nat) (g : TG) (te : TE) (fs : St) (Q : VK) (H1 : Hp) : Prop := ∃ (n : Nat) (W : Nat → List V → St → Hp → Prop), W 0 [] (List.replicate k none ++ fs) H1 ∧
  ∀ i ys σ' H', W i ys σ' H' → ys.length < sizeLine ∧ ((J.stop i H' ∧ ∀ p, H' p = none → Q (.ref p) (upd H' p (.lst ys))) ∨
    (J.go i H' ∧ i < n ∧ ∀ x H'', J.yld i H' x H'' → g x σ' H'' fun σ2 H2 => te σ2 H2 fun y H3 => W (i + 1) (ys ++ [y]) σ2 H3))
def tComp (wi : TI) (k : Nat) (g : TG) (te : TE) (is : List Nat) : TE := fun σ H Q => wi σ H fun J H1 => CompR J k g te (inS σ is) Q H1

theorem pe_comp {elt tg iter : Expr} {pos : Pos} {wi : TI} {g : TG} {te : TE} (hc : X.calm = true) (S : CompSc X scope xs ys is) (hi : PI X tg iter wi)
    (hg : ∀ fp s1 H1 C, PG (compCx X (xs ++ ys) scope (clOf X.env ys) fp s1 H1 C) tg g) (he : ∀ fp s1 H1 C, PE (compCx X (xs ++ ys) scope (clOf X.env ys) fp s1 H1 C) elt te)
    (hs : ∀ x, foldedSetIterable iter X.env x = pure x := by intro _; rfl) :
    PE X (.ListComp elt [⟨tg, iter, [], 0⟩] scope pos) (tComp wi xs.length g te is) := by
  intro pins s σ H Q I h
  rw [eval_ListComp]
  have hnames : ∀ x ∈ scope.names, x.2 = .local → scope.names.lookup x.1 = some .local := fun x hx hl => by
    have q := List.all_eq_true.mp S.names x hx
    rw [Bool.or_eq_true] at q
    rcases q with q | q
    · exact absurd hl (of_decide_eq_true q)
    · exact of_decide_eq_true q
  have hcell : ∀ x ∈ scope.names, x.2 ≠ .cell := fun x hx => by
    have q := List.all_eq_true.mp S.cov x hx
    rw [Bool.and_eq_true] at q
    exact of_decide_eq_true q.1
  refine wpAny_comprehension_free (use := none) (g := ⟨tg, iter, [], 0⟩) (gs := []) rfl hs S.clos S.kind hnames (thn (hi pins s σ H _ I h) fun xv s0 h0 => thn h0 fun itv s1 h1 => ?_)
  obtain ⟨it, fp, tn, J, H1, rfl, I1, T, st1, f1, n, W, w0, turn⟩ := h1
  refine wpAny_newObj_type (wpAny_newFunctionEnv hcell (by intro y hy; simp at hy) (fun h₁ hns₁ hsb₁ => ?_) S.kind)
  dsimp only at hns₁ hsb₁ ⊢
  generalize hH2 : s1.heap.push { cls := .type "list", dict := none, data := .seq ([] : List Value).toArray } = G2 at hns₁ hsb₁ ⊢
  have hCs : G2.objs.size = s1.heap.objs.size + 1 := by rw [← hH2, Heap.size_push]
  have hCle : s1.heap.objs.size ≤ G2.objs.size := by rw [hCs]; exact Nat.le_succ _
  have hDC : s1.heap.objs.size ≠ G2.objs.size := by rw [hCs]; exact Nat.ne_of_lt (Nat.lt_succ_self _)
  have old : ∀ b o, s1.heap.get? b = some o → h₁.get? b = some o := fun b o e => hsb₁.extBut b o (Nat.ne_of_lt (Nat.lt_of_lt_of_le (Heap.lt_size e) hCle)) (Heap.get?_push_of_some _ (hH2 ▸ Heap.get?_push_of_some _ e))
  have hacc : h₁.get? s1.heap.objs.size = some (lobj [] 0) := hsb₁.extBut _ _ hDC (Heap.get?_push_of_some _ (hH2 ▸ Heap.get?_push_size _ rfl))
  have hfl : ∀ b ∈ fp, b < s1.heap.objs.size := fun b hb => by
    obtain ⟨o, e, _⟩ := T.obj _ _ st1 b hb
    exact Heap.lt_size e
  -- the block's context
  generalize hY : compCx X (xs ++ ys) scope (clOf X.env ys) fp s1 H1 G2.objs.size = Y
  have okY : Y.Ok := by rw [← hY]; exact compCx_ok I1 hc S hCle f1 hfl
  have hDf : ∀ b ∈ fp, s1.heap.objs.size ≠ b := fun b hb => Ne.symm (Nat.ne_of_lt (hfl b hb))
  have fsub : ∀ b, b ∈ Y.fs → b = X.env.locals ∨ b ∈ X.fs := fun b hb => by
    rw [← hY] at hb
    exact List.mem_cons.mp (I1.stkSub b hb)
  have fslt : ∀ b ∈ Y.fs, b < s1.heap.objs.size := fun b hb => by
    rw [← hY] at hb
    obtain ⟨_, o, ho, _⟩ := I1.stack.mem hb
    exact Heap.lt_size ho
  have hDfs : s1.heap.objs.size ∉ Y.fs := fun z => Nat.lt_irrefl _ (fslt _ z)
  have hYl : Y.env.locals = G2.objs.size := by rw [← hY]; rfl
  have hYc : ∀ x c, Y.env.cells.lookup x = some c → X.env.cells.lookup x = some c := fun x c e => by
    rw [← hY] at e
    exact clOf_lookup S.cells x c e
  have clt : ∀ x c, Y.env.cells.lookup x = some c → c < s1.heap.objs.size := fun x c e => by
    obtain ⟨v, q⟩ := I1.cell x c (hYc x c e)
    exact q.lt
  have hYpn : Y.pn = [] := by rw [← hY]; rfl
  have hYex : Y.ex = fp := by rw [← hY]; rfl
  have hYs : Y.s₀ = s1 := by rw [← hY]; rfl
  have hYH : Y.H₀ = H1 := by rw [← hY]; rfl
  have hYp : Y.prog = X.prog := by rw [← hY]; rfl
  have hYw : Y.w = X.w := by rw [← hY]; rfl
  have hYK : Y.K = X.K := by rw [← hY]; rfl
  have hYA : Y.A = X.A := by rw [← hY]; rfl
  have hYe : compEnvC scope (clOf X.env ys) G2.objs.size X.env = Y.env := by rw [← hY]; rfl
  have hYca : Y.calm = true := by rw [← hY]; rfl
  have hYxe : Y.xe = fun _ _ => False := by rw [← hY]; rfl
  have hYstk : Y.fs = frs X.stack := by rw [← hY]; rfl
  -- pins of the list that is made
  have pinD : ∀ {H' : Hp} {s' : Shared} {its : List Value} {k : Nat}, s'.heap.get? s1.heap.objs.size = some (lobj its k) → H' s1.heap.objs.size = none → ∀ p ∈ [(s1.heap.objs.size, lobj its k)], s'.heap.get? p.1 = some p.2 ∧ H' p.1 = none ∧ p.1 ≠ Y.env.locals ∧ p.1 ∉ Y.fs ∧ ∀ v, p.2.data ≠ .cell v :=
    fun {H' s' its k} e hn p hp => by
      obtain rfl := List.mem_singleton.mp hp
      exact ⟨e, hn, by rw [hYl]; exact hDC, hDfs, fun v => lobj_cell its k v⟩
  have fpY : ∀ {H' : Hp} {its : List Value} {k : Nat}, (∀ b ∈ fp, H' b = none) → ∀ b ∈ fp, FpOk Y [(s1.heap.objs.size, lobj its k)] H' b := fun {H' its k} hn b hb =>
    ⟨hn b hb, by rw [hYl]; exact Nat.ne_of_lt (Nat.lt_of_lt_of_le (hfl b hb) hCle), fun z => (fsub b z).elim (f1 b hb).2.1 (f1 b hb).2.2.1, .inl (by rw [hYex]; exact hb),
      fun x c e => (f1 b hb).2.2.2.2.1 x c (hYc x c e), fun p hp => by
        rw [hYpn, List.nil_append] at hp
        obtain rfl := List.mem_singleton.mp hp
        exact hDf b hb⟩
  have hDnew : H1 s1.heap.objs.size = none := I1.hok.fresh (Nat.le_refl _)
  have I2 : ∀ tk, Inv Y [(s1.heap.objs.size, lobj [] 0)] (List.replicate xs.length none ++ inS σ is) H1 { s1 with heap := h₁, toks := tk } := fun tk => by
    refine ⟨okY, by rw [hYs], I1.bare, by rw [hYs, hYH]; exact Un.kept old, ⟨_, by rw [hYl]; exact hns₁, fun i x v e1 e2 e3 => ?_⟩, fun x c e => ?_, ?_, fun x c e => I1.freeC x c (hYc x c e), fun p hp => ?_, by rw [hYp, hYw]; exact I1.hok.kept old, ?_⟩
    · -- a free name
      have hNY : Y.N = xs ++ ys := by rw [← hY]; rfl
      rw [hNY] at e1
      by_cases hlt : i < xs.length
      · rw [List.getElem?_append_left (by rw [List.length_replicate]; exact hlt), List.getElem?_replicate, if_pos hlt] at e2
        cases e2
      · have hge : xs.length ≤ i := Nat.not_lt.mp hlt
        rw [List.getElem?_append_right (by rw [List.length_replicate]; exact hge), List.length_replicate] at e2
        rw [List.getElem?_append_right hge] at e1
        obtain ⟨i0, h0, h1⟩ := inS_get S.slots _ x v e1 e2
        have hm : x ∈ ys := List.mem_of_getElem? e1
        have kx : X.env.kindOf x = some .cell := of_decide_eq_true (List.all_eq_true.mp S.kX x hm)
        have ky : (relabel scope X.env).names.lookup x = some .cell := of_decide_eq_true (List.all_eq_true.mp S.kY x hm)
        obtain ⟨m, _, hl⟩ := I1.loc
        obtain ⟨u, ru, lk⟩ := hl i0 x v h0 h1 (.inr (.inl kx))
        refine ⟨u, ru, .inr ⟨.inl (by rw [← hY]; exact ky), ?_⟩⟩
        rcases lk with ⟨z, _⟩ | ⟨_, c, hc1, hc2⟩
        · rw [kx] at z; cases z
        · obtain ⟨c', hc'⟩ := clOf_has (env := X.env) hm
          have hc'' := clOf_lookup S.cells x c' hc'
          rw [hc1] at hc''
          cases hc''
          refine ⟨c, by rw [← hY]; exact hc', ?_⟩
          obtain ⟨o, ho, hd⟩ := hc2
          exact ⟨o, old _ _ ho, hd⟩
    · obtain ⟨v, o, ho, hd⟩ := I1.cell x c (hYc x c e)
      exact ⟨v, o, old _ _ ho, hd⟩
    · rw [hYl]; exact I1.hok.fresh hCle
    · rw [hYpn, List.nil_append] at hp
      exact pinD (s' := { s1 with heap := h₁, toks := tk }) hacc hDnew p hp
    · have hNY : Y.N = xs ++ ys := by rw [← hY]; rfl
      have hl := congrArg List.length S.slots
      rw [List.length_map, List.length_map] at hl
      rw [hNY, List.length_append, List.length_append, List.length_replicate]
      unfold inS
      rw [List.length_map, hl]
  have loop : ∀ s₃ : Shared, s₃ = { s1 with heap := h₁, toks := s1.toks + ([] : List (Str × Value)).length } →
      codeAny (model X.prog X.w) X.A (.compLoop (.ListComp elt [⟨tg, iter, [], 0⟩] scope pos) 0 (.ref it) (.ref s1.heap.objs.size) (compEnvC scope (clOf X.env ys) G2.objs.size X.env))
        (compPost (model X.prog X.w) X.A X.xe none (EP X pins σ Q) (.ref s1.heap.objs.size) G2.objs.size) s₃ := by
    rintro s₃ rfl
    rw [hYe]
    refine compLoop_go (fun k s' => ∃ i made σ' H' its c, Inv Y [(s1.heap.objs.size, lobj its c)] σ' H' s' ∧ tn i s'.heap ∧ (∀ b ∈ fp, H' b = none) ∧ Vals made its ∧ k = n - i ∧ W i made σ' H') ?_ n
      ⟨0, [], _, H1, [], 0, I2 _, T.keep _ _ _ st1 fun b _ o e => old b o e, fun b hb => (f1 b hb).1, .nil, rfl, w0⟩
    rintro k s' ⟨i, made, σ', H', its, c, I3, st3, fr3, rv, rfl, w3⟩
    obtain ⟨hz, tw⟩ := turn i made σ' H' w3
    have pD := I3.pin (s1.heap.objs.size, lobj its c) (by rw [hYpn]; exact List.mem_singleton.mpr rfl)
    rcases tw with ⟨stop, hq⟩ | ⟨go, hin, step⟩
    · rw [← hYA]
      refine thn (T.done Y hYp hYw hYK hYca i _ s' σ' H' _ I3 (fpY fr3) st3 stop) fun r s4 ⟨hr, I4⟩ => ?_
      subst hr
      obtain ⟨m, hn4, _⟩ := I4.loc
      rw [hYl] at hn4
      refine ⟨m, hn4, fun h' hs' => ?_⟩
      have pD4 := I4.pin (s1.heap.objs.size, lobj its c) (by rw [hYpn]; exact List.mem_singleton.mpr rfl)
      have kp : ∀ b o, b ≠ G2.objs.size → s4.heap.get? b = some o → h'.get? b = some o := fun b o hb e => hs'.extBut b o hb e
      have lt1 : ∀ {b o}, s1.heap.get? b = some o → b ≠ G2.objs.size := fun {b o} e => Nat.ne_of_lt (Nat.lt_of_lt_of_le (Heap.lt_size e) hCle)
      have hbase := I4.base
      rw [hYs, hYH, hYex, hYstk] at hbase
      have ltH : ∀ {b o}, H1 b = some o → b ≠ s1.heap.objs.size := fun {b o} e => Nat.ne_of_lt (I1.hok.lt e)
      have u : Un (frs X.stack) fp H1 (upd H' s1.heap.objs.size (.lst made)) s1.heap h' := by
        refine ⟨fun b o e n hb hx => kp b o (lt1 e) (hbase.keep b o e n hb hx), fun b o e n hb hx => ?_, fun b o e n hx => ?_, fun b o e hx => ?_, fun b xs e => ?_, fun b o u e => ?_, fun b ps e => ?_⟩
        · obtain ⟨sl, q⟩ := hbase.slot b o e n hb hx
          exact ⟨sl, kp b _ (lt1 e) q⟩
        · rw [upd_ne (Nat.ne_of_lt (Heap.lt_size e))]; exact hbase.free b o e n hx
        · obtain ⟨o', q⟩ := hbase.there b o e hx
          exact ⟨o', kp b _ (lt1 e) q⟩
        · rw [upd_ne (ltH e)]; exact hbase.tups b xs e
        · rw [upd_ne (ltH e)]; exact hbase.frzs b o u e
        · obtain ⟨more, q⟩ := hbase.tbls b ps e
          exact ⟨more, by rw [upd_ne (ltH e)]; exact q⟩
      have hCn : H' G2.objs.size = none := by rw [← hYl]; exact I4.free
      have hok' : HOk X.prog X.w (upd H' s1.heap.objs.size (.lst made)) h' := fun b o e => by
        by_cases hb : b = s1.heap.objs.size
        · subst hb
          rw [upd_same] at e
          cases e
          exact ⟨Nat.le_of_lt hz, its, c, rv, kp _ _ hDC pD4.1⟩
        · rw [upd_ne hb] at e
          have x4 := I4.hok b o e
          rw [hYp, hYw] at x4
          have neC : ∀ b' u, H' b' = some u → b' ≠ G2.objs.size := fun b' u q z => by rw [z, hCn] at q; cases q
          have neD : ∀ b' u, H' b' = some u → b' ≠ s1.heap.objs.size := fun b' u q z => by rw [z, pD4.2.1] at q; cases q
          refine x4.stay (fun b' u hb' q => kp b' u ?_ q) (fun b' q => ?_) fun b' xs q => ?_
          · rcases hb' with z | z
            · rw [z]; exact neC b o e
            · exact neC b' _ z
          · rw [upd_ne (neD b' _ q)]; exact q
          · rw [upd_ne (neD b' _ q)]; exact q
      have I5 : Inv X pins σ (upd H' s1.heap.objs.size (.lst made)) { s4 with heap := h' } := I1.call' (by show s4.os = s1.os; rw [I4.os, hYs]) u hok' I4.bare fun b hb => ⟨(f1 b hb).2.2.2.1, (f1 b hb).2.1, (f1 b hb).2.2.2.2.1, (f1 b hb).2.2.2.2.2⟩
      exact ⟨.ref s1.heap.objs.size, _, I5, rfl, hq _ pD4.2.1⟩
    · rw [← hYA]
      refine thn (T.item Y hYp hYw hYK hYca i _ s' σ' H' _ I3 (fpY fr3) st3 go) fun r s4 ⟨u, hr, h4⟩ => ?_
      subst hr
      dsimp only
      refine thn h4 fun _ s5 ⟨x, H5, I5, r5, y5, st5, fr5⟩ => ?_
      have I5' := I5.pinned (fpY fr5) (T.obj _ _ st5)
      have hgY := hg fp s1 H1 G2.objs.size
      have heY := he fp s1 H1 G2.objs.size
      rw [hY] at hgY heY
      rw [← hYp, ← hYw]
      refine wpAny_mono (hgY _ s5 σ' H5 x u _ I5' r5 (step x H5 y5)) (fun _ s6 ⟨σ6, H6, I6, q6⟩ => ?_) (fun _ _ f => by rw [hYxe] at f; exact f.elim)
      refine wpAny_mono (heY _ s6 σ6 H6 _ I6 q6) (fun v s7 ⟨y, H7, I7, r7, q7⟩ => ?_) (fun _ _ f => by rw [hYxe] at f; exact f.elim)
      have pD7 := I7.pin (s1.heap.objs.size, lobj its c) (List.mem_append_right _ (List.mem_append_left _ (List.mem_singleton.mpr rfl)))
      have e7 : s7.heap.get? s1.heap.objs.size = some { cls := .type "list", data := .seq its.toArray c } := pD7.1
      refine append_at (hsz := by rw [List.size_toArray, ← rv.length]; exact Nat.le_of_lt hz) e7 fun h' hs' hD' => ?_
      have I8 : Inv Y [] σ6 H7 s7 := I7.pins_of fun _ z => nomatch z
      have I9 : Inv Y [] σ6 H7 { s7 with heap := h' } := I8.turned (t' := s7.toks) (it := s1.heap.objs.size) (fun b o hb e => hs'.extBut b o hb e) pD7.2.1 (by rw [hYl]; exact hDC) (.inr (by rw [hYs]; exact Nat.le_refl _))
        (fun x c' e => Nat.ne_of_lt (clt x c' e)) (fun p hp => by rw [hYpn] at hp; cases hp)
      have eD : h'.get? s1.heap.objs.size = some (lobj (its ++ [v]) (c + 1)) := by rw [hD', List.push_toArray]
      have st7 : tn (i + 1) s7.heap := T.keep _ _ _ st5 fun b hb o e => (I7.pin (b, o) (List.mem_append_right _ (List.mem_append_right _ (mem_pinsAt hb e)))).1
      refine ⟨n - (i + 1), by omega, i + 1, made ++ [y], σ6, H7, its ++ [v], c + 1, I9.pins_of (pinD (s' := { s7 with heap := h' }) eD pD7.2.1), T.keep _ _ _ st7 fun b hb o e => hs'.extBut b o (Ne.symm (hDf b hb)) e, fun b hb => ?_, rv.append (.cons r7 .nil), rfl, q7⟩
      obtain ⟨o, e, d⟩ := T.obj _ _ st5 b hb
      exact (I7.pin (b, o) (List.mem_append_right _ (List.mem_append_right _ (mem_pinsAt hb e)))).2.1
  exact codeAny_compStart_list (loop _ rfl) (T.self _ 0 _ _ _ (T.keep _ _ _ st1 fun b _ o e => old b o e) (loop _ rfl))
end
end L2


set_option maxHeartbeats 4000000
namespace L2
open PySem PySem.Spec PyProof.Rows
theorem same_upd {H : Hp} {p : Addr} {o : HO} (h : H p = none) : Same H (upd H p o) := fun b u e => by rw [upd_ne (ne_of_none e h)]; exact e
section
variable {X : Cx}
/-! ### all, isinstance, is -/
theorem range_all (bs : List Bool) : (List.range bs.length).all (fun i => (bs[i]?).getD true) = bs.all id := by
  rw [Bool.eq_iff_iff, List.all_eq_true, List.all_eq_true]
  constructor
  · intro h b hb
    obtain ⟨i, hi, e⟩ := List.getElem_of_mem hb
    have q := h i (List.mem_range.mpr hi)
    rw [List.getElem?_eq_getElem hi, Option.getD_some, e] at q
    exact q
  · intro h i hi
    have hi' := List.mem_range.mp hi
    rw [List.getElem?_eq_getElem hi', Option.getD_some]
    exact h _ (List.getElem_mem hi')
theorem call_all (hc : X.calm = true) : CallR X (.builtin "all") (fun xs H Q => ∃ (p : Addr) (bs : List Bool), xs = [.ref p] ∧ SqL X.K H p (bs.map V.bl) ∧ Q (.bl (bs.all id)) H) := by
  intro pins s σ H xs us Q I r h
  obtain ⟨p, bs, rfl, hp, q⟩ := h
  obtain ⟨u, rfl, ru⟩ := vals1 r
  cases ru
  obtain ⟨its, rv, pl, hz⟩ := I.list hp
  have hlt : p < s.heap.objs.size := by obtain ⟨_, e, _⟩ := pl.isList; exact Heap.lt_size e
  have hlen : its.length = bs.length := by rw [← rv.length, List.length_map]
  refine call_all_walk (wpAny_pyIter_list pl.isList ?_)
  refine ⟨s.heap.objs.size, _, _, its.toArray.size, _, _, fun i => (bs[i]?).getD true, rfl, Walks.list (A := X.A.in1) (I.ok.hd hc) s.heap.objs.size p (Nat.ne_of_lt hlt) its.toArray, ⟨⟨_, Heap.get?_push_size _ rfl, rfl, rfl⟩, pl.isList.push _⟩, fun i v s2 Q2 E2 hP hQ => ?_, fun h' tk hk => ?_⟩
  · have hv : its[i]? = some v := by simpa using hP
    have hi : i < bs.length := by rw [← hlen]; exact (List.getElem?_eq_some_iff.mp hv).1
    obtain ⟨u, hu, ru⟩ := rv.get (i := i) (x := V.bl bs[i]) (by rw [List.getElem?_map, List.getElem?_eq_getElem hi]; rfl)
    rw [hv] at hu
    cases hu
    have e : v = Value.bool bs[i] := ru
    rw [e]
    have q2 : Q2 ((bs[i]?).getD true) s2 := hQ
    rw [List.getElem?_eq_getElem hi, Option.getD_some] at q2
    exact wpAny_truthy_bool q2
  · rw [List.size_toArray, hlen, range_all]
    exact ⟨.bl (bs.all id), H, I.kept fun b o e => hk b o (by simp; exact Nat.ne_of_lt (Heap.lt_size e)) (Heap.get?_push_of_some _ e), rfl, q⟩
theorem call_isinst : CallR X (.builtin "isinstance") (fun xs H Q => ∃ x n t b, xs = [x, .ty n] ∧ TyOf X.K H x t ∧ PySem.W.kitOne X.K t (.type n) = some b ∧ Q (.bl b) H) := by
  intro pins s σ H xs us Q I r h
  obtain ⟨x, n, t, b, rfl, ty, e, q⟩ := h
  obtain ⟨u, u2, rfl, ru, ru2⟩ := vals2 r
  cases ru2
  exact isinst_ok I ru ty e fun tk => ⟨.bl b, H, I.tok tk, rfl, q⟩
theorem op_is_bl : OpR X (compareOp .Is) (fun x y H Q => ∃ c d, x = .bl c ∧ y = .bl d ∧ Q (.bl (c == d)) H) := by
  intro pins s σ H x y v u Q I rx ry h
  obtain ⟨c, d, rfl, rfl, q⟩ := h
  cases rx
  cases ry
  exact is_bool (fin_bl I q rfl)
theorem op_isnot_bl : OpR X (compareOp .IsNot) (fun x y H Q => ∃ c d, x = .bl c ∧ y = .bl d ∧ Q (.bl (c != d)) H) := by
  intro pins s σ H x y v u Q I rx ry h
  obtain ⟨c, d, rfl, rfl, q⟩ := h
  cases rx
  cases ry
  exact isnot_bool (fin_bl I q rfl)
/-! ### texts: walked, cut, repeated; a list of one -/
/-! ### tuples: t + u, t * n -/
end
end L2


set_option maxHeartbeats 4000000
namespace L2
open PySem PySem.Spec PyProof.Rows
open PySem.AutoSeq1 (wpAny_loadPart')
end L2


set_option maxHeartbeats 4000000
namespace Cw
open PySem L2
/-! ### what the laws speak of, without the heap -/
def sgn (c : Nat) : Bool := c == 35 || (48 ≤ c && c ≤ 57)
def rowB : V → Bool
  | .str z => decide (1 ≤ z.cps.toList.length) && decide (z.cps.toList.length ≤ 12) && z.cps.toList.all sgn
  | _ => false
def lenV : V → Nat
  | .str z => z.cps.toList.length
  | _ => 0
def floorB (xs : List V) : Bool := decide (1 ≤ xs.length) && decide (xs.length ≤ 12) && xs.all rowB && xs.all fun y => lenV y == lenV (xs.headD .non)
def wholeB : V → Bool
  | .int _ => true
  | _ => false
def isBl : V → Bool
  | .bl _ => true
  | _ => false
def isIn : V → Bool
  | .bl _ => true
  | .int _ => true
  | _ => false
def walkerB : List V → Bool
  | [.bl _, .int c, .int u] => decide (0 ≤ c) && decide (c ≤ 9) && (decide (0 ≤ u) && decide (u ≤ 3))
  | _ => false
/-- a thing that the heap knows -/
def Known (H : Hp) : V → Prop
  | .ref a => (∃ xs, H a = some (.lst xs)) ∨ ∃ xs, H a = some (.tup xs)
  | .byt _ => False
  | .flt _ => False
  | .ty _ => False
  | _ => True
/-- .. whose signs are plain ones, if it is a text -/
def RowArg (H : Hp) (x : V) : Prop := Known H x ∧ ∀ z, x = .str z → z.cps.toList.length ≤ 1000 ∧ ∀ c ∈ z.cps.toList, c < 128
theorem Known.same {H H' : Hp} (s : Same H H') : ∀ {x : V}, Known H x → Known H' x
  | .ref a, h => by
    rcases h with ⟨xs, e⟩ | ⟨xs, e⟩
    · exact .inl ⟨xs, s _ _ e⟩
    · exact .inr ⟨xs, s _ _ e⟩
  | .non, _ => trivial
  | .bl _, _ => trivial
  | .int _, _ => trivial
  | .str _, _ => trivial
  | .byt _, h => h.elim
  | .flt _, h => h.elim
  | .ty _, h => h.elim
theorem RowArg.same {H H' : Hp} (s : Same H H') {x : V} (h : RowArg H x) : RowArg H' x := ⟨h.1.same s, h.2⟩
/-- what is_floor tells of a thing -/
inductive FloorIs (H : Hp) : V → Bool → Prop where
  | plain {x : V} (k : Known H x) (h : ∀ a, x ≠ .ref a) : FloorIs H x false
  | lst {a : Addr} {xs : List V} (e : H a = some (.lst xs)) : FloorIs H (.ref a) false
  | tup {a : Addr} {xs : List V} {b : Bool} (e : H a = some (.tup xs)) (r : ∀ y ∈ xs, RowArg H y) (hl : xs.length ≤ 1000) (hb : b = floorB xs) : FloorIs H (.ref a) b
inductive WalkerIs (H : Hp) : V → Bool → Prop where
  | plain {x : V} (k : Known H x) (h : ∀ a, x ≠ .ref a) : WalkerIs H x false
  | lst {a : Addr} {xs : List V} (e : H a = some (.lst xs)) : WalkerIs H (.ref a) false
  | tup {a : Addr} {xs : List V} {b : Bool} (e : H a = some (.tup xs)) (r : ∀ y ∈ xs, Known H y) (hl : xs.length ≤ 1000) (hb : b = walkerB xs) : WalkerIs H (.ref a) b
theorem FloorIs.same {H H' : Hp} (s : Same H H') {x : V} {b : Bool} (h : FloorIs H x b) : FloorIs H' x b := by
  cases h with
  | plain k h => exact .plain (k.same s) h
  | lst e => exact .lst (s _ _ e)
  | tup e r hl hb => exact .tup (s _ _ e) (fun y hy => (r y hy).same s) hl hb
theorem WalkerIs.same {H H' : Hp} (s : Same H H') {x : V} {b : Bool} (h : WalkerIs H x b) : WalkerIs H' x b := by
  cases h with
  | plain k h => exact .plain (k.same s) h
  | lst e => exact .lst (s _ _ e)
  | tup e r hl hb => exact .tup (s _ _ e) (fun y hy => (r y hy).same s) hl hb
/-! ### isinstance of these -/
section
variable {K : PySem.W.Frag}
abbrev kit (K : PySem.W.Frag) (t n : String) (b : Bool) : Prop := PySem.W.kitOne K (.type t) (.type n) = some b
theorem kit_same {K : PySem.W.Frag} (t : String) : kit K t t true := by unfold kit PySem.W.kitOne; rw [if_pos (by simp)]
theorem kit_of {t n : String} {b : Bool} (h0 : (Value.type t == Value.type n) = false) (h1 : PySem.W.kitMeta n = true) (h2 : (fastBuiltinMro t).map (·.contains (Value.type n)) = some b) : kit K t n b := by
  unfold kit PySem.W.kitOne
  rw [if_neg (by rw [h0]; exact Bool.false_ne_true)]
  show (if PySem.W.kitMeta n = true then PySem.W.subIn K (.type t) (.type n) else none) = some b
  rw [if_pos h1]
  exact h2
theorem mInt : PySem.W.kitMeta "int" = true := by decide +kernel
theorem mBool : PySem.W.kitMeta "bool" = true := by decide +kernel
theorem mTuple : PySem.W.kitMeta "tuple" = true := by decide +kernel
theorem ty_int {H : Hp} : ∀ {x : V}, Known H x → ∃ t, TyOf K H x t ∧ PySem.W.kitOne K t (.type "int") = some (isIn x)
  | .non, _ => ⟨_, .non, kit_of (b := false) (by decide +kernel) mInt (by decide +kernel)⟩
  | .bl b, _ => ⟨_, .bl b, kit_of (b := true) (by decide +kernel) mInt (by decide +kernel)⟩
  | .int i, _ => ⟨_, .int i, kit_same _⟩
  | .str z, _ => ⟨_, .str z, kit_of (b := false) (by decide +kernel) mInt (by decide +kernel)⟩
  | .ref a, h => by
    rcases h with ⟨xs, e⟩ | ⟨xs, e⟩
    · exact ⟨_, .lst e, kit_of (b := false) (by decide +kernel) mInt (by decide +kernel)⟩
    · exact ⟨_, .tup e, kit_of (b := false) (by decide +kernel) mInt (by decide +kernel)⟩
  | .byt _, h => h.elim
  | .flt _, h => h.elim
  | .ty _, h => h.elim
theorem ty_bool {H : Hp} : ∀ {x : V}, Known H x → ∃ t, TyOf K H x t ∧ PySem.W.kitOne K t (.type "bool") = some (isBl x)
  | .non, _ => ⟨_, .non, kit_of (b := false) (by decide +kernel) mBool (by decide +kernel)⟩
  | .bl b, _ => ⟨_, .bl b, kit_same _⟩
  | .int i, _ => ⟨_, .int i, kit_of (b := false) (by decide +kernel) mBool (by decide +kernel)⟩
  | .str z, _ => ⟨_, .str z, kit_of (b := false) (by decide +kernel) mBool (by decide +kernel)⟩
  | .ref a, h => by
    rcases h with ⟨xs, e⟩ | ⟨xs, e⟩
    · exact ⟨_, .lst e, kit_of (b := false) (by decide +kernel) mBool (by decide +kernel)⟩
    · exact ⟨_, .tup e, kit_of (b := false) (by decide +kernel) mBool (by decide +kernel)⟩
  | .byt _, h => h.elim
  | .flt _, h => h.elim
  | .ty _, h => h.elim
theorem ty_tup {H : Hp} : ∀ {x : V}, Known H x → (∀ a, x ≠ .ref a) → ∃ t, TyOf K H x t ∧ PySem.W.kitOne K t (.type "tuple") = some false
  | .non, _, _ => ⟨_, .non, kit_of (b := false) (by decide +kernel) mTuple (by decide +kernel)⟩
  | .bl b, _, _ => ⟨_, .bl b, kit_of (b := false) (by decide +kernel) mTuple (by decide +kernel)⟩
  | .int i, _, _ => ⟨_, .int i, kit_of (b := false) (by decide +kernel) mTuple (by decide +kernel)⟩
  | .str z, _, _ => ⟨_, .str z, kit_of (b := false) (by decide +kernel) mTuple (by decide +kernel)⟩
  | .ref a, _, h => absurd rfl (h a)
  | .byt _, h, _ => h.elim
  | .flt _, h, _ => h.elim
  | .ty _, h, _ => h.elim
theorem ty_tupL {H : Hp} {a : Addr} {xs : List V} (e : H a = some (.lst xs)) : ∃ t, TyOf K H (.ref a) t ∧ PySem.W.kitOne K t (.type "tuple") = some false := ⟨_, .lst e, kit_of (b := false) (by decide +kernel) mTuple (by decide +kernel)⟩
theorem ty_tupT {H : Hp} {a : Addr} {xs : List V} (e : H a = some (.tup xs)) : ∃ t, TyOf K H (.ref a) t ∧ PySem.W.kitOne K t (.type "tuple") = some true := ⟨_, .tup e, kit_same _⟩
end
/-! ### sign in SIGNS -/
abbrev SIGNS : Str := "#0123456789"
end Cw


set_option maxHeartbeats 4000000
namespace L2
open PySem PySem.Spec PyProof.Rows
section
variable {X : Cx} {pos : Pos}
theorem pe_tyInt (hg : Gl X "int") (hm : X.mg "int" = none) : PE X (.Name "int" pos) (tC (.ty "int")) := pe_bltn hg hm (u := .type "int") (by decide +kernel) rfl
theorem pe_tyBool (hg : Gl X "bool") (hm : X.mg "bool" = none) : PE X (.Name "bool" pos) (tC (.ty "bool")) := pe_bltn hg hm (u := .type "bool") (by decide +kernel) rfl
theorem pe_tyTuple (hg : Gl X "tuple") (hm : X.mg "tuple" = none) : PE X (.Name "tuple" pos) (tC (.ty "tuple")) := pe_bltn hg hm (u := .type "tuple") (by decide +kernel) rfl
theorem pe_globI {x : Str} {i : Int} {t : Tok} (hg : Gl X x) (hm : X.mg x = some (.int i t)) (hd : (x == ("__debug__" : Str)) = false := by decide) : PE X (.Name x pos) (tC (.int i)) := pe_glob hg hm ⟨t, rfl⟩ hd
theorem pe_globS {x z : Str} {t : Tok} (hg : Gl X x) (hm : X.mg x = some (.str z t)) (hd : (x == ("__debug__" : Str)) = false := by decide) : PE X (.Name x pos) (tC (.str z)) := pe_glob hg hm ⟨t, rfl⟩ hd
/-- xs == [] -/
theorem op_eq_nil (hu : X.A.units < cLine) : OpR X (compareOp .Eq) (fun x y H Q => ∃ a b xs, x = .ref a ∧ y = .ref b ∧ SqL X.K H a xs ∧ SqL X.K H b [] ∧ Q (.bl xs.isEmpty) H) := by
  intro pins s σ H x y v u Q I rx ry h
  obtain ⟨a, b, xs, rfl, rfl, ha, hb, q⟩ := h
  cases rx
  cases ry
  obtain ⟨its, r1, p1, _⟩ := I.list ha
  obtain ⟨its2, r2, p2, _⟩ := I.list hb
  have e2 : its2 = [] := r2.nil_iff.mpr rfl
  subst e2
  cases xs with
  | nil =>
    have e1 : its = [] := r1.nil_iff.mpr rfl
    subst e1
    exact SeqAt.eq_listAt (e := fun _ => true) p1.isList p2.isList rfl hu (fun j h1 => by simp at h1) (fin_bl I q (by simp))
  | cons x xs =>
    have hl := r1.length
    rw [List.length_cons] at hl
    exact SeqAt.eq_list_lengthsAt p1.isList p2.isList (by rw [bne_iff_ne, List.size_toArray, List.size_toArray]; show its.length ≠ 0; omega) hu (fin_bl I q rfl)
end
end L2


set_option maxHeartbeats 4000000
namespace Cw
open PySem L2
end Cw


set_option maxHeartbeats 4000000
namespace L2
open PySem PySem.Spec PyProof.Rows
section
variable {X : Cx}
theorem all_pair (ns ms : List Int) : ((List.range (min ns.length ms.length)).all (fun j => ns.getD j 0 == ms.getD j 0) && ns.length == ms.length) = decide (ns = ms) := by
  rw [Bool.eq_iff_iff, Bool.and_eq_true, decide_eq_true_iff, List.all_eq_true, beq_iff_eq]
  constructor
  · rintro ⟨h1, h2⟩
    apply List.ext_getElem h2
    intro i hi hj
    have := beq_iff_eq.mp (h1 i (List.mem_range.mpr (by omega)))
    rw [List.getD_eq_getElem?_getD, List.getD_eq_getElem?_getD, List.getElem?_eq_getElem hi, List.getElem?_eq_getElem hj] at this
    exact this
  · rintro rfl
    exact ⟨fun j _ => by simp, rfl⟩
theorem int_at {ns : List Int} {its : List Value} (r : Vals (ns.map V.int) its) (j : Nat) (h : j < its.toArray.size) : ∃ t, its.toArray[j] = Value.int (ns.getD j 0) t := by
  have hl := r.length
  rw [List.length_map] at hl
  rw [List.size_toArray] at h
  have hj : j < ns.length := by omega
  obtain ⟨u, hu, t, rfl⟩ := r.get (i := j) (x := V.int ns[j]) (by rw [List.getElem?_map, List.getElem?_eq_getElem hj]; rfl)
  refine ⟨t, ?_⟩
  rw [List.getElem?_eq_getElem h] at hu
  have e := Option.some.inj hu
  rw [List.getD_eq_getElem?_getD, List.getElem?_eq_getElem hj]
  simpa using e
def rTupI (K : PySem.W.Frag) (f : Bool → Bool) : R2 := fun x y H Q => ∃ (a b : Addr) (ns ms : List Int), x = .ref a ∧ y = .ref b ∧ SqT K H a (ns.map V.int) ∧ SqT K H b (ms.map V.int) ∧ Q (.bl (f (decide (ns = ms)))) H
theorem op_ne_tupI (hu : X.A.units < cLine) : OpR X (compareOp .NotEq) (rTupI X.K fun b => !b) := by
  intro pins s σ H x y v u Q I rx ry h
  obtain ⟨a, b, ns, ms, rfl, rfl, ha, hb, q⟩ := h
  cases rx
  cases ry
  obtain ⟨its, r1, p1, _⟩ := I.tuple ha
  obtain ⟨its2, r2, p2, _⟩ := I.tuple hb
  have l1 := r1.length
  have l2 := r2.length
  rw [List.length_map] at l1 l2
  refine (SeqAt.RcNeAt.tuples (e := fun j => ns.getD j 0 == ms.getD j 0) (show s.heap.IsTuple a its.toArray from p1) (show s.heap.IsTuple b its2.toArray from p2) hu (fun j h1 h2 => ?_)) _ _ _ _ (fin_bl I q ?_)
  · obtain ⟨t1, e1⟩ := int_at r1 j h1
    obtain ⟨t2, e2⟩ := int_at r2 j h2
    rw [e1, e2]
    exact SeqAt.EqAt.int_int _ _ _ _
  · rw [List.size_toArray, List.size_toArray, ← l1, ← l2, all_pair]
theorem op_eq_tupI (hu : X.A.units < cLine) : OpR X (compareOp .Eq) (rTupI X.K id) := by
  intro pins s σ H x y v u Q I rx ry h
  obtain ⟨a, b, ns, ms, rfl, rfl, ha, hb, q⟩ := h
  cases rx
  cases ry
  obtain ⟨its, r1, p1, _⟩ := I.tuple ha
  obtain ⟨its2, r2, p2, _⟩ := I.tuple hb
  have l1 := r1.length
  have l2 := r2.length
  rw [List.length_map] at l1 l2
  refine SeqAt.eq_tupleAt (e := fun j => ns.getD j 0 == ms.getD j 0) (show s.heap.IsTuple a its.toArray from p1) (show s.heap.IsTuple b its2.toArray from p2) hu (fun j h1 h2 => ?_) (fin_bl I q ?_)
  · obtain ⟨t1, e1⟩ := int_at r1 j h1
    obtain ⟨t2, e2⟩ := int_at r2 j h2
    rw [e1, e2]
    exact SeqAt.EqAt.int_int _ _ _ _
  · rw [List.size_toArray, List.size_toArray, ← l1, ← l2, all_pair]
    rfl
theorem call_int_txt : CallR X (.type "int") (fun xs H Q => ∃ z n, xs = [.str z] ∧ PySem.intText? z = some n ∧ z.length ≤ 640 ∧ Q (.int n) H) := by
  intro pins s σ H xs us Q I r h
  obtain ⟨z, n, rfl, h1, h2, q⟩ := h
  obtain ⟨u, rfl, t, rfl⟩ := vals1 r
  exact PySem.W.KIN.call_text h1 h2 ⟨.int n, H, I.tok _, ⟨_, rfl⟩, q⟩
end
end L2
namespace Cw
open PySem L2
/-! ### a floor's cells -/
def codeAt (rows : List Str) (r c : Int) : Option Nat := if 0 ≤ r ∧ 0 ≤ c then (rows[r.toNat]?).bind fun z => z.cps.toList[c.toNat]? else none
def openB (rows : List Str) (r c : Int) : Bool := match codeAt rows r c with
  | some x => x != 35
  | none => false
def heightB (rows : List Str) (r c : Int) : Int := match codeAt rows r c with
  | some x => (x : Int) - 48
  | none => 0
theorem digit_int : ∀ c : Nat, 48 ≤ c → c ≤ 57 → PySem.intText? ⟨#[c]⟩ = some ((c : Int) - 48) := by
  intro c h1 h2
  have h : c = 48 ∨ c = 49 ∨ c = 50 ∨ c = 51 ∨ c = 52 ∨ c = 53 ∨ c = 54 ∨ c = 55 ∨ c = 56 ∨ c = 57 := by omega
  rcases h with rfl | rfl | rfl | rfl | rfl | rfl | rfl | rfl | rfl | rfl
  all_goals decide +kernel
/-- [r, c] is a spot's make -/
def spotB : List V → Bool
  | [.int _, .int _] => true
  | _ => false
theorem spotB_len {xs : List V} (h : ¬ xs.length = 2) : spotB xs = false := by
  unfold spotB
  split
  · exact absurd rfl h
  · rfl
/-- what a test of a tuple's make tells of any thing -/
inductive TupIs (f : List V → Bool) (H : Hp) : V → Bool → Prop where
  | plain {x : V} (k : Known H x) (h : ∀ a, x ≠ .ref a) : TupIs f H x false
  | lst {a : Addr} {xs : List V} (e : H a = some (.lst xs)) : TupIs f H (.ref a) false
  | tup {a : Addr} {xs : List V} {b : Bool} (e : H a = some (.tup xs)) (r : ∀ y ∈ xs, Known H y) (hl : xs.length ≤ 1000) (hb : b = f xs) : TupIs f H (.ref a) b
theorem TupIs.same {f : List V → Bool} {H H' : Hp} (s : Same H H') {x : V} {b : Bool} (h : TupIs f H x b) : TupIs f H' x b := by
  cases h with
  | plain k h => exact .plain (k.same s) h
  | lst e => exact .lst (s _ _ e)
  | tup e r hl hb => exact .tup (s _ _ e) (fun y hy => (r y hy).same s) hl hb
end Cw


set_option maxHeartbeats 4000000
namespace Cw
open PySem L2
/-- a row of c signs -/
def RowOk (c : Nat) (r : Str) : Prop := r.cps.toList.length = c ∧ ∀ x ∈ r.cps.toList, sgn x = true
structure FlOk (rows : List Str) (c m : Nat) : Prop where
  r1 : 1 ≤ rows.length
  rm : rows.length ≤ m
  c1 : 1 ≤ c
  cm : c ≤ m
  row : ∀ r ∈ rows, RowOk c r
structure FloorAt (H : Hp) (a : Addr) (rows : List Str) (c : Nat) : Prop where
  at_ : H a = some (.tup (rows.map V.str))
  ok : FlOk rows c 12
theorem FloorAt.same {H H' : Hp} {a : Addr} {rows : List Str} {c : Nat} (s : Same H H') (h : FloorAt H a rows c) : FloorAt H' a rows c := ⟨s _ _ h.at_, h.ok⟩
theorem codeAt_in {rows : List Str} {c m : Nat} (h : FlOk rows c m) {r k : Int} (r0 : 0 ≤ r) (r1 : r < rows.length) (k0 : 0 ≤ k) (k1 : k < c) : ∃ z x, rows[r.toNat]? = some z ∧ z.cps.toList[k.toNat]? = some x ∧ codeAt rows r k = some x ∧ sgn x = true ∧ z.length = c := by
  have hr : r.toNat < rows.length := by omega
  have hz := h.row rows[r.toNat] (List.getElem_mem hr)
  have hk : k.toNat < rows[r.toNat].cps.toList.length := by rw [hz.1]; omega
  refine ⟨rows[r.toNat], rows[r.toNat].cps.toList[k.toNat], List.getElem?_eq_getElem hr, List.getElem?_eq_getElem hk, ?_, hz.2 _ (List.getElem_mem hk), ?_⟩
  · unfold codeAt
    rw [if_pos ⟨r0, k0⟩, List.getElem?_eq_getElem hr]
    exact List.getElem?_eq_getElem hk
  · have := hz.1
    simpa [Str.length] using this
theorem codeAt_out {rows : List Str} {c m : Nat} (h : FlOk rows c m) {r k : Int} (n : ¬ (0 ≤ r ∧ r < rows.length ∧ 0 ≤ k ∧ k < c)) : codeAt rows r k = none := by
  unfold codeAt
  by_cases h0 : 0 ≤ r ∧ 0 ≤ k
  · rw [if_pos h0]
    by_cases hr : r.toNat < rows.length
    · rw [List.getElem?_eq_getElem hr]
      have hz := h.row rows[r.toNat] (List.getElem_mem hr)
      show rows[r.toNat].cps.toList[k.toNat]? = none
      rw [List.getElem?_eq_none_iff, hz.1]
      omega
    · rw [List.getElem?_eq_none_iff.mpr (by omega)]
      rfl
  · rw [if_neg h0]
def onB (rows : List Str) (c : Nat) (r k : Int) : Bool := decide (0 ≤ r) && decide (r < rows.length) && (decide (0 ≤ k) && decide (k < c))
theorem openB_out {rows : List Str} {c m : Nat} (h : FlOk rows c m) {r k : Int} (n : onB rows c r k = false) : openB rows r k = false := by
  unfold openB
  rw [codeAt_out h (fun ⟨h1, h2, h3, h4⟩ => by
    unfold onB at n
    rw [decide_eq_true h1, decide_eq_true h2, decide_eq_true h3, decide_eq_true h4] at n
    cases n)]
theorem onB_true {rows : List Str} {c : Nat} {r k : Int} (n : onB rows c r k = true) : 0 ≤ r ∧ r < rows.length ∧ 0 ≤ k ∧ k < c := by
  unfold onB at n
  simp only [Bool.and_eq_true, decide_eq_true_eq] at n
  exact ⟨n.1.1, n.1.2, n.2.1, n.2.2⟩
theorem openB_on {rows : List Str} {c m : Nat} (h : FlOk rows c m) {r k : Int} (o : openB rows r k = true) : onB rows c r k = true := by
  cases e : onB rows c r k with
  | true => rfl
  | false => rw [openB_out h e] at o; cases o
/-- is_open's word of any thing -/
inductive OpenIs (rows : List Str) (H : Hp) : V → Bool → Prop where
  | no {x : V} (h : TupIs spotB H x false) : OpenIs rows H x false
  | spot {p : Addr} {r k : Int} {b : Bool} (e : H p = some (.tup [.int r, .int k])) (hb : b = openB rows r k) : OpenIs rows H (.ref p) b
end Cw
namespace K03
open PySem L2 Cw
def top (i : Nat) : Stmt := PySem.Challenge.pw_cellways_k03_ways.main.body.getD i (.Pass ⟨0, 0, 0, 0⟩)
abbrev sWhole : Stmt := top 10
abbrev sSpot : Stmt := top 11
abbrev sOn : Stmt := top 12
abbrev sOpen : Stmt := top 13
abbrev sNeed : Stmt := top 14
abbrev sHeight : Stmt := top 15
abbrev sBeside : Stmt := top 16
abbrev sCorners : Stmt := top 17
abbrev sCost : Stmt := top 18
structure Tx (mg : Str → Option Value) : Prop where
  isinstance : mg "isinstance" = none
  int : mg "int" = none
  bool : mg "bool" = none
  tuple : mg "tuple" = none
  len : mg "len" = none
  range : mg "range" = none
  abs : mg "abs" = none
  max : mg "max" = none
  wall : ∃ t, mg "WALL" = some (.str "#" t)
  straight : ∃ t, mg "STRAIGHT_COST" = some (.int 2 t)
  slanting : ∃ t, mg "SLANTING_COST" = some (.int 3 t)
structure Call1 (P : Program) (w : World) (K : PySem.W.Frag) (mg : Str → Option Value) (base : Heap) (x : Str) (k : Nat) (ps : List Str) (sp : Sp) (f : Addr) (fd : FuncData) : Prop where
  ok : FnOk P w K mg base CX0 k f fd ps sp
  m : mg x = some (.ref f)
  kp : PySem.W.keepIn K (.ref f) = true
  b : Binds K fd ps []
def spWhole : Sp := fun vs H Q _ => ∃ x, vs = [x] ∧ Known H x ∧ Q (.bl (wholeB x)) H
def spSpot : Sp := fun vs H Q _ => ∃ x b, vs = [x] ∧ TupIs spotB H x b ∧ Q (.bl b) H
def spOn : Sp := fun vs H Q _ => ∃ (a p : Addr) (rows : List Str) (c : Nat) (r k : Int), vs = [.ref a, .ref p] ∧ FloorAt H a rows c ∧ H p = some (.tup [.int r, .int k]) ∧ Q (.bl (onB rows c r k)) H
def spOpen : Sp := fun vs H Q _ => ∃ (a : Addr) (x : V) (rows : List Str) (c : Nat) (b : Bool), vs = [.ref a, x] ∧ FloorAt H a rows c ∧ OpenIs rows H x b ∧ Q (.bl b) H
def spNeed : Sp := fun vs H Q _ => ∃ (a : Addr) (x : V) (rows : List Str) (c : Nat), vs = [.ref a, x] ∧ FloorAt H a rows c ∧ OpenIs rows H x true ∧ Q .non H
def spHeight : Sp := fun vs H Q _ => ∃ (a p : Addr) (rows : List Str) (c : Nat) (r k : Int), vs = [.ref a, .ref p] ∧ FloorAt H a rows c ∧ H p = some (.tup [.int r, .int k]) ∧ openB rows r k = true ∧ Q (.int (heightB rows r k)) H
section
variable {P : Program} {w : World} {K : PySem.W.Frag} {mg : Str → Option Value} {base : Heap}
theorem scW : FnScope ["thing"] ["thing"] (defScope sWhole) := ⟨rfl, rfl, rfl, by decide +kernel, rfl, by decide +kernel, by decide +kernel⟩
theorem ok_whole {f : Addr} {fd : FuncData} (F : Fun K "is_whole" "is_whole" sWhole f fd) (T : Tx mg) : FnOk P w K mg base CX0 1 f fd ["thing"] spWhole := by
  refine F.ok scW (fun vs H Q E h => ?_) (fun cdv A outer s H vs Q E hr h => ?_)
  · obtain ⟨x, rfl, _⟩ := h
    rfl
  · obtain ⟨x, rfl, kx, q⟩ := h
    refine ⟨_, pss_one (ps_ret (pe_and (pe_callB call_isinst (by rfl) T.isinstance (by decide +kernel) (pa_cons (pv 0) (pa_cons (pe_tyInt (by rfl) T.int) pa_nil)))
      (pe_one (pe_not (pe_callB call_isinst (by rfl) T.isinstance (by decide +kernel) (pa_cons (pv 0) (pa_cons (pe_tyBool (by rfl) T.bool) pa_nil))))))), ?_⟩
    obtain ⟨t1, y1, e1⟩ := ty_int (K := K) kx
    obtain ⟨t2, y2, e2⟩ := ty_bool (K := K) kx
    refine ⟨_, rfl, _, _, _, _, rfl, y1, e1, _, rfl, ?_⟩
    cases x with
    | int i => exact iteT ⟨_, rfl, _, _, _, _, rfl, y2, e2, _, rfl, q⟩
    | bl b => exact iteT ⟨_, rfl, _, _, _, _, rfl, y2, e2, _, rfl, q⟩
    | non => exact iteF q
    | str z => exact iteF q
    | ref a => exact iteF q
    | byt _ => exact kx.elim
    | flt _ => exact kx.elim
    | ty _ => exact kx.elim
theorem scS : FnScope ["thing"] ["thing"] (defScope sSpot) := ⟨rfl, rfl, rfl, by decide +kernel, rfl, by decide +kernel, by decide +kernel⟩
theorem ok_spot {f fW : Addr} {fd fdW : FuncData} (F : Fun K "is_spot" "is_spot" sSpot f fd) (T : Tx mg) (GW : Call1 P w K mg base "is_whole" 1 ["thing"] spWhole fW fdW) : FnOk P w K mg base CX0 2 f fd ["thing"] spSpot := by
  refine F.ok scS (fun vs H Q E h => ?_) (fun cdv A outer s H vs Q E hr h => ?_)
  · obtain ⟨x, b, rfl, _⟩ := h
    rfl
  · obtain ⟨x, b, rfl, hx, q⟩ := h
    refine ⟨_, pss_one (ps_ret (pe_and (pe_callB call_isinst (by rfl) T.isinstance (by decide +kernel) (pa_cons (pv 0) (pa_cons (pe_tyTuple (by rfl) T.tuple) pa_nil)))
      (pe_and (pe_cmpR op_eq (pe_callB call_len_seq (by rfl) T.len PySem.boot_len (pa_cons (pv 0) pa_nil)) pe_int (nomark _))
      (pe_and (pe_call GW.ok hr (by rfl) GW.m GW.kp GW.b .nil pass0 (pa_cons (pe_ix ix_tup (pv 0) pe_int (fun _ _ => rfl)) pa_nil))
        (pe_one (pe_call GW.ok hr (by rfl) GW.m GW.kp GW.b .nil pass0 (pa_cons (pe_ix ix_tup (pv 0) pe_int (fun _ _ => rfl)) pa_nil))))))), ?_⟩
    cases hx with
    | plain k hn =>
      obtain ⟨t1, y1, e1⟩ := ty_tup (K := K) k hn
      exact ⟨_, rfl, _, _, _, _, rfl, y1, e1, _, rfl, iteF q⟩
    | lst e =>
      obtain ⟨t1, y1, e1⟩ := ty_tupL (K := K) e
      exact ⟨_, rfl, _, _, _, _, rfl, y1, e1, _, rfl, iteF q⟩
    | @tup a xs _ e r hl hb =>
      obtain ⟨t1, y1, e1⟩ := ty_tupT (K := K) e
      refine ⟨_, rfl, _, _, _, _, rfl, y1, e1, _, rfl, iteT ⟨_, rfl, a, xs, rfl, .inr (SqT.of e), rfl, _, rfl, ?_⟩⟩
      by_cases h2 : xs.length = 2
      · obtain ⟨x0, x1, rfl⟩ : ∃ x0 x1, xs = [x0, x1] := by
          match xs, h2 with
          | [x0, x1], _ => exact ⟨x0, x1, rfl⟩
        refine iteT ⟨_, rfl, a, [x0, x1], 0, x0, rfl, rfl, SqT.of e, atI_nat (j := 0) rfl, x0, rfl, r x0 (by simp), _, rfl, ?_⟩
        cases hb0 : wholeB x0 with
        | false =>
          refine iteF ?_
          have eb : b = false := by rw [hb]; cases x0 <;> first | rfl | cases hb0
          rw [eb] at q
          exact q
        | true =>
          obtain ⟨c0, rfl⟩ : ∃ c, x0 = .int c := by cases x0 <;> first | exact ⟨_, rfl⟩ | cases hb0
          refine iteT ⟨_, rfl, a, [.int c0, x1], 1, x1, rfl, rfl, SqT.of e, atI_nat (j := 1) rfl, x1, rfl, r x1 (by simp), ?_⟩
          have eb : b = wholeB x1 := by rw [hb]; cases x1 <;> rfl
          rw [← eb]
          exact q
      · rw [show decide (V.int (xs.length : Int) = V.int 2) = false from decide_eq_false (fun z => h2 (by injection z with z; omega))]
        refine iteF ?_
        have eb : b = false := by rw [hb]; exact spotB_len h2
        rw [eb] at q
        exact q
theorem scO : FnScope ["floor", "spot"] ["floor", "spot"] (defScope sOn) := ⟨rfl, rfl, rfl, by decide +kernel, rfl, by decide +kernel, by decide +kernel⟩
theorem ok_on {f : Addr} {fd : FuncData} (F : Fun K "is_on_floor" "is_on_floor" sOn f fd) (T : Tx mg) : FnOk P w K mg base CX0 1 f fd ["floor", "spot"] spOn := by
  refine F.ok scO (fun vs H Q E h => ?_) (fun cdv A outer s H vs Q E hr h => ?_)
  · obtain ⟨a, p, rows, c, r, k, rfl, _⟩ := h
    rfl
  · obtain ⟨a, p, rows, c, r, k, rfl, hf, hp, q⟩ := h
    refine ⟨_, pss_one (ps_ret (pe_and (pe_chain op_le op_lt pe_int (pe_ix ix_tup (pv 1) pe_int (fun _ _ => rfl)) (pe_callB call_len_seq (by rfl) T.len PySem.boot_len (pa_cons (pv 0) pa_nil)))
      (pe_one (pe_chain op_le op_lt pe_int (pe_ix ix_tup (pv 1) pe_int (fun _ _ => rfl)) (pe_callB call_len_str (by rfl) T.len PySem.boot_len (pa_cons (pe_ix ix_tup (pv 0) (pe_ix ix_tup (pv 1) pe_int (fun _ _ => rfl)) (fun _ _ => rfl)) pa_nil)))))), ?_⟩
    refine ⟨_, rfl, p, [.int r, .int k], 0, .int r, rfl, rfl, SqT.of hp, atI_nat (j := 0) rfl, _, _, rfl, rfl, _, rfl, ?_⟩
    refine ite2 (fun h1 => ?_) (fun h1 => ?_)
    · refine ⟨_, rfl, a, _, rfl, .inr (SqT.of hf.at_), _, _, rfl, rfl, _, rfl, ?_⟩
      rw [List.length_map]
      refine ite2 (fun h2 => ?_) (fun h2 => ?_)
      · have r0 : 0 ≤ r := of_decide_eq_true h1
        have r1 : r < rows.length := of_decide_eq_true h2
        have hr' : r.toNat < rows.length := by omega
        have hz := hf.ok.row rows[r.toNat] (List.getElem_mem hr')
        have hzl : rows[r.toNat].length = c := by have := hz.1; simpa [Str.length] using this
        have hc := hf.ok.cm
        refine ⟨_, rfl, p, [.int r, .int k], 1, .int k, rfl, rfl, SqT.of hp, atI_nat (j := 1) rfl, _, _, rfl, rfl, _, rfl, ?_⟩
        refine ite2 (fun h3 => ?_) (fun h3 => ?_)
        · refine ⟨_, rfl, _, rfl, p, [.int r, .int k], 0, .int r, rfl, rfl, SqT.of hp, atI_nat (j := 0) rfl, a, _, r, .str rows[r.toNat], rfl, rfl, SqT.of hf.at_, ?_, _, rfl, ?_, _, _, rfl, rfl, ?_⟩
          · have z := atI_nat (xs := rows.map V.str) (j := r.toNat) (v := .str rows[r.toNat]) (by rw [List.getElem?_map, List.getElem?_eq_getElem hr']; rfl)
            rw [Int.toNat_of_nonneg r0] at z
            exact z
          · rw [hzl]; exact Nat.le_trans (Nat.le_trans hc (by decide)) (by decide : 12 ≤ sizeLine)
          · rw [hzl]
            have e : onB rows c r k = decide (k < (c : Int)) := by
              unfold onB
              rw [h1, h2, h3]
              rfl
            show Q (.bl (decide (k < (c : Int)))) H
            rw [← e]
            exact q
        · have e : onB rows c r k = false := by
            unfold onB
            rw [Bool.eq_false_iff.mpr h3]
            simp
          rw [e] at q
          exact q
      · have e : onB rows c r k = false := by
          unfold onB
          rw [Bool.eq_false_iff.mpr h2]
          simp
        rw [e] at q
        exact q
    · refine ⟨_, rfl, iteF ?_⟩
      have e : onB rows c r k = false := by
        unfold onB
        rw [Bool.eq_false_iff.mpr h1]
        simp
      rw [e] at q
      exact q
end
end K03


set_option maxHeartbeats 4000000
namespace Cw
open PySem L2
theorem wall_ne (x : Nat) : (!decide (V.str ⟨#[x]⟩ = V.str "#")) = (x != 35) := by
  have e : ("#" : Str) = ⟨#[35]⟩ := by decide +kernel
  rw [e]
  by_cases h : x = 35
  · subst h; simp
  · have : ¬ V.str ⟨#[x]⟩ = V.str ⟨#[35]⟩ := fun z => h (by injection z with z; injection z with z; simpa using z)
    rw [decide_eq_false this]
    simp [h]
theorem atI_of {α : Type} {xs : List α} {i : Int} {v : α} (h0 : 0 ≤ i) (h : xs[i.toNat]? = some v) : atI xs i = some v := by
  have := atI_nat (j := i.toNat) h
  rw [Int.toNat_of_nonneg h0] at this
  exact this
theorem spot_known {H : Hp} {p : Addr} {r k : Int} (e : H p = some (.tup [.int r, .int k])) : TupIs spotB H (.ref p) true := .tup e (fun y hy => by
  simp only [List.mem_cons, List.mem_nil_iff, or_false] at hy
  rcases hy with rfl | rfl <;> trivial) (Nat.le_of_ble_eq_true rfl) rfl
theorem OpenIs.same {rows : List Str} {H H' : Hp} (s : Same H H') {x : V} {b : Bool} (h : OpenIs rows H x b) : OpenIs rows H' x b := by
  cases h with
  | no h => exact .no (h.same s)
  | spot e hb => exact .spot (s _ _ e) hb
def absI (i : Int) : Int := if i < 0 then -i else i
def besideB (r k r' k' : Int) : Bool := !decide (([r, k] : List Int) = [r', k']) && (decide (absI (r - r') ≤ 1) && decide (absI (k - k') ≤ 1))
end Cw
namespace K03
open PySem L2 Cw
def spBeside : Sp := fun vs H Q _ => ∃ (p p' : Addr) (r k r' k' : Int), vs = [.ref p, .ref p'] ∧ H p = some (.tup [.int r, .int k]) ∧ H p' = some (.tup [.int r', .int k']) ∧ Q (.bl (besideB r k r' k')) H
def spCorners : Sp := fun vs H Q _ => ∃ (a p p' : Addr) (rows : List Str) (c : Nat) (r k r' k' : Int), vs = [.ref a, .ref p, .ref p'] ∧ FloorAt H a rows c ∧ H p = some (.tup [.int r, .int k]) ∧ H p' = some (.tup [.int r', .int k']) ∧
  ∀ H', Same H H' → Q (.bl (openB rows r k' && openB rows r' k)) H'
section
variable {P : Program} {w : World} {K : PySem.W.Frag} {mg : Str → Option Value} {base : Heap}
theorem scOp : FnScope ["floor", "thing"] ["floor", "thing"] (defScope sOpen) := ⟨rfl, rfl, rfl, by decide +kernel, rfl, by decide +kernel, by decide +kernel⟩
theorem ok_open {f fS fO : Addr} {fd fdS fdO : FuncData} (F : Fun K "is_open" "is_open" sOpen f fd) (T : Tx mg) (GS : Call1 P w K mg base "is_spot" 2 ["thing"] spSpot fS fdS) (GO : Call1 P w K mg base "is_on_floor" 1 ["floor", "spot"] spOn fO fdO) :
    FnOk P w K mg base CX0 3 f fd ["floor", "thing"] spOpen := by
  refine F.ok scOp (fun vs H Q E h => ?_) (fun cdv A outer s H vs Q E hr h => ?_)
  · obtain ⟨a, x, rows, c, b, rfl, _⟩ := h
    rfl
  · obtain ⟨a, x, rows, c, b, rfl, hf, hx, q⟩ := h
    obtain ⟨tW, mW⟩ := T.wall
    have hr1 : Room 1 _ := hr.mono (by decide)
    refine ⟨_, pss_one (ps_ret (pe_and (pe_call GS.ok hr (by rfl) GS.m GS.kp GS.b .nil pass0 (pa_cons (pv 1) pa_nil)) (pe_and (pe_call GO.ok hr1 (by rfl) GO.m GO.kp GO.b .nil pass0 (pa_cons (pv 0) (pa_cons (pv 1) pa_nil)))
      (pe_one (pe_cmpR op_ne (pe_ix ix_str (pe_ix ix_tup (pv 0) (pe_ix ix_tup (pv 1) pe_int (fun _ _ => rfl)) (fun _ _ => rfl)) (pe_ix ix_tup (pv 1) pe_int (fun _ _ => rfl)) (fun _ _ => rfl)) (pe_globS (by rfl) mW) (nomark _)))))), ?_⟩
    cases hx with
    | no h => exact ⟨_, rfl, x, false, rfl, h, _, rfl, iteF q⟩
    | @spot p r k _ e hb =>
      refine ⟨_, rfl, _, true, rfl, spot_known e, _, rfl, iteT ⟨_, rfl, _, rfl, a, p, rows, c, r, k, rfl, hf, e, _, rfl, ?_⟩⟩
      cases ho : onB rows c r k with
      | false =>
        refine iteF ?_
        rw [hb, openB_out hf.ok ho] at q
        exact q
      | true =>
        refine iteT ?_
        obtain ⟨r0, r1, k0, k1⟩ := onB_true ho
        obtain ⟨z, x, hz, hx, hc, _, hl⟩ := codeAt_in hf.ok r0 r1 k0 k1
        have hcm := hf.ok.cm
        refine ⟨_, rfl, _, rfl, p, [.int r, .int k], 0, .int r, rfl, rfl, SqT.of e, atI_nat (j := 0) rfl, a, _, r, .str z, rfl, rfl, SqT.of hf.at_, atI_of r0 (by rw [List.getElem?_map, hz]; rfl),
          _, rfl, p, [.int r, .int k], 1, .int k, rfl, rfl, SqT.of e, atI_nat (j := 1) rfl, z, k, x, rfl, rfl, ?_, atI_of k0 hx, rfl, ?_⟩
        · rw [hl]; exact Nat.le_trans hcm (by decide)
        · rw [wall_ne]
          have eb : b = (x != 35) := by
            rw [hb]
            unfold openB
            rw [hc]
          rw [← eb]
          exact q
theorem scN : FnScope ["floor", "spot"] ["floor", "spot"] (defScope sNeed) := ⟨rfl, rfl, rfl, by decide +kernel, rfl, by decide +kernel, by decide +kernel⟩
/-- where the spot is open: nothing is raised -/
theorem ok_need {f fO : Addr} {fd fdO : FuncData} (F : Fun K "need_open" "need_open" sNeed f fd) (GO : Call1 P w K mg base "is_open" 3 ["floor", "thing"] spOpen fO fdO) : FnOk P w K mg base CX0 4 f fd ["floor", "spot"] spNeed := by
  refine F.ok scN (fun vs H Q E h => ?_) (fun cdv A outer s H vs Q E hr h => ?_)
  · obtain ⟨a, x, rows, c, rfl, _⟩ := h
    rfl
  · obtain ⟨a, x, rows, c, rfl, hf, hx, q⟩ := h
    refine ⟨_, pss_one (ps_if (pt_not (pt_val (pe_call GO.ok hr (by rfl) GO.m GO.kp GO.b .nil pass0 (pa_cons (pv 0) (pa_cons (pv 1) pa_nil))))) (pss_one ps_never) pss_nil), ?_⟩
    exact ⟨_, rfl, _, rfl, a, x, rows, c, true, rfl, hf, hx, _, rfl, iteF q⟩
theorem scH : FnScope ["floor", "spot"] ["floor", "spot"] (defScope sHeight) := ⟨rfl, rfl, rfl, by decide +kernel, rfl, by decide +kernel, by decide +kernel⟩
theorem ok_height {f fN : Addr} {fd fdN : FuncData} (F : Fun K "height_at" "height_at" sHeight f fd) (T : Tx mg) (GN : Call1 P w K mg base "need_open" 4 ["floor", "spot"] spNeed fN fdN) : FnOk P w K mg base CX0 5 f fd ["floor", "spot"] spHeight := by
  refine F.ok scH (fun vs H Q E h => ?_) (fun cdv A outer s H vs Q E hr h => ?_)
  · obtain ⟨a, p, rows, c, r, k, rfl, _⟩ := h
    rfl
  · obtain ⟨a, p, rows, c, r, k, rfl, hf, hp, ho, q⟩ := h
    refine ⟨_, pss_cons (ps_expr (pe_call GN.ok hr (by rfl) GN.m GN.kp GN.b .nil pass0 (pa_cons (pv 0) (pa_cons (pv 1) pa_nil))))
      (pss_one (ps_ret (pe_callTy call_int_txt (by rfl) T.int (by decide +kernel) (pa_cons (pe_ix ix_str (pe_ix ix_tup (pv 0) (pe_ix ix_tup (pv 1) pe_int (fun _ _ => rfl)) (fun _ _ => rfl)) (pe_ix ix_tup (pv 1) pe_int (fun _ _ => rfl)) (fun _ _ => rfl)) pa_nil)))), ?_⟩
    obtain ⟨r0, r1, k0, k1⟩ := onB_true (openB_on hf.ok ho)
    obtain ⟨z, x, hz, hx, hc, hs, hl⟩ := codeAt_in hf.ok r0 r1 k0 k1
    have hcm := hf.ok.cm
    have hne : x ≠ 35 := by
      unfold openB at ho
      rw [hc] at ho
      simpa using ho
    have hx2 : 48 ≤ x ∧ x ≤ 57 := by
      unfold sgn at hs
      simp at hs
      omega
    refine ⟨_, rfl, _, rfl, a, _, rows, c, rfl, hf, .spot hp ho.symm, ?_⟩
    refine ⟨_, rfl, _, rfl, p, [.int r, .int k], 0, .int r, rfl, rfl, SqT.of hp, atI_nat (j := 0) rfl, a, _, r, .str z, rfl, rfl, SqT.of hf.at_, atI_of r0 (by rw [List.getElem?_map, hz]; rfl),
      _, rfl, p, [.int r, .int k], 1, .int k, rfl, rfl, SqT.of hp, atI_nat (j := 1) rfl, z, k, x, rfl, rfl, (by rw [hl]; exact Nat.le_trans hcm (by decide)), atI_of k0 hx, _, _, rfl, digit_int x hx2.1 hx2.2, (by show 1 ≤ 640; decide), ?_⟩
    have e : heightB rows r k = (x : Int) - 48 := by
      unfold heightB
      rw [hc]
    rw [← e]
    exact q
theorem scB : FnScope ["one", "other"] ["one", "other"] (defScope sBeside) := ⟨rfl, rfl, rfl, by decide +kernel, rfl, by decide +kernel, by decide +kernel⟩
theorem ok_beside {f : Addr} {fd : FuncData} (F : Fun K "are_beside" "are_beside" sBeside f fd) (T : Tx mg) : FnOk P w K mg base CX0 1 f fd ["one", "other"] spBeside := by
  refine F.ok scB (fun vs H Q E h => ?_) (fun cdv A outer s H vs Q E hr h => ?_)
  · obtain ⟨p, p', r, k, r', k', rfl, _⟩ := h
    rfl
  · obtain ⟨p, p', r, k, r', k', rfl, hp, hp', q⟩ := h
    refine ⟨_, pss_one (ps_ret (pe_and (pe_cmpR (op_ne_tupI hr.units0) (pv 0) (pv 1) (nomark _))
      (pe_and (pe_cmpR op_le (pe_callB call_abs (by rfl) T.abs (by decide +kernel) (pa_cons (pe_op op_sub (pe_ix ix_tup (pv 0) pe_int (fun _ _ => rfl)) (pe_ix ix_tup (pv 1) pe_int (fun _ _ => rfl))) pa_nil)) pe_int (nomark _))
      (pe_one (pe_cmpR op_le (pe_callB call_abs (by rfl) T.abs (by decide +kernel) (pa_cons (pe_op op_sub (pe_ix ix_tup (pv 0) pe_int (fun _ _ => rfl)) (pe_ix ix_tup (pv 1) pe_int (fun _ _ => rfl))) pa_nil)) pe_int (nomark _)))))), ?_⟩
    refine ⟨_, rfl, _, rfl, p, p', [r, k], [r', k'], rfl, rfl, SqT.of hp, SqT.of hp', _, rfl, ?_⟩
    unfold besideB at q
    refine ite2 (fun h1 => ?_) (fun h1 => ?_)
    · rw [show (!decide (([r, k] : List Int) = [r', k'])) = true from h1, Bool.true_and] at q
      refine ⟨_, rfl, p, [.int r, .int k], 0, .int r, rfl, rfl, SqT.of hp, atI_nat (j := 0) rfl, _, rfl, p', [.int r', .int k'], 0, .int r', rfl, rfl, SqT.of hp', atI_nat (j := 0) rfl, _, _, rfl, rfl, _, rfl, _, _, rfl, rfl, _, rfl, ?_⟩
      refine ite2 (fun h2 => ?_) (fun h2 => ?_)
      · rw [show decide (absI (r - r') ≤ 1) = true from h2, Bool.true_and] at q
        exact ⟨_, rfl, p, [.int r, .int k], 1, .int k, rfl, rfl, SqT.of hp, atI_nat (j := 1) rfl, _, rfl, p', [.int r', .int k'], 1, .int k', rfl, rfl, SqT.of hp', atI_nat (j := 1) rfl, _, _, rfl, rfl, _, rfl, _, _, rfl, rfl, q⟩
      · rw [show decide (absI (r - r') ≤ 1) = false from Bool.eq_false_iff.mpr h2, Bool.false_and] at q
        exact q
    · rw [show (!decide (([r, k] : List Int) = [r', k'])) = false from Bool.eq_false_iff.mpr h1, Bool.false_and] at q
      exact q
theorem scC : FnScope ["floor", "one", "other"] ["floor", "one", "other"] (defScope sCorners) := ⟨rfl, rfl, rfl, by decide +kernel, rfl, by decide +kernel, by decide +kernel⟩
theorem ok_corners {f fO : Addr} {fd fdO : FuncData} (F : Fun K "has_open_corners" "has_open_corners" sCorners f fd) (GO : Call1 P w K mg base "is_open" 3 ["floor", "thing"] spOpen fO fdO) : FnOk P w K mg base CX0 4 f fd ["floor", "one", "other"] spCorners := by
  refine F.ok scC (fun vs H Q E h => ?_) (fun cdv A outer s H vs Q E hr h => ?_)
  · obtain ⟨a, p, p', rows, c, r, k, r', k', rfl, _⟩ := h
    rfl
  · obtain ⟨a, p, p', rows, c, r, k, r', k', rfl, hf, hp, hp', q⟩ := h
    refine ⟨_, pss_one (ps_ret (pe_and (pe_call GO.ok hr (by rfl) GO.m GO.kp GO.b .nil pass0 (pa_cons (pv 0) (pa_cons (pe_tup (pa_cons (pe_ix ix_tup (pv 1) pe_int (fun _ _ => rfl)) (pa_cons (pe_ix ix_tup (pv 2) pe_int (fun _ _ => rfl)) pa_nil))) pa_nil)))
      (pe_one (pe_call GO.ok hr (by rfl) GO.m GO.kp GO.b .nil pass0 (pa_cons (pv 0) (pa_cons (pe_tup (pa_cons (pe_ix ix_tup (pv 2) pe_int (fun _ _ => rfl)) (pa_cons (pe_ix ix_tup (pv 1) pe_int (fun _ _ => rfl)) pa_nil))) pa_nil)))))), ?_⟩
    refine ⟨_, rfl, _, rfl, p, [.int r, .int k], 0, .int r, rfl, rfl, SqT.of hp, atI_nat (j := 0) rfl, _, rfl, p', [.int r', .int k'], 1, .int k', rfl, rfl, SqT.of hp', atI_nat (j := 1) rfl, (show 2 ≤ sizeLine by decide), fun n1 g1 => ?_⟩
    have s1 := same_upd (o := .tup [.int r, .int k']) g1
    refine ⟨a, _, rows, c, _, rfl, hf.same s1, .spot upd_same rfl, _, rfl, ?_⟩
    cases h1 : openB rows r k' with
    | false =>
      refine iteF ?_
      rw [h1] at q
      exact q _ s1
    | true =>
      refine iteT ?_
      rw [h1, Bool.true_and] at q
      refine ⟨_, rfl, _, rfl, p', [.int r', .int k'], 0, .int r', rfl, rfl, SqT.of (s1 _ _ hp'), atI_nat (j := 0) rfl, _, rfl, p, [.int r, .int k], 1, .int k, rfl, rfl, SqT.of (s1 _ _ hp), atI_nat (j := 1) rfl, (show 2 ≤ sizeLine by decide), fun n2 g2 => ?_⟩
      have s2 := s1.trans (same_upd (o := .tup [.int r', .int k]) g2)
      exact ⟨a, _, rows, c, _, rfl, hf.same s2, .spot upd_same rfl, q _ s2⟩
end
end K03


set_option maxHeartbeats 4000000
namespace Cw
open PySem L2
def optV : Option Int → V
  | none => .non
  | some i => .int i
def slB (r k r' k' : Int) : Bool := !decide (V.int r = V.int r') && !decide (V.int k = V.int k')
def upI (i : Int) : Int := if 0 > i then 0 else i
def costB (rows : List Str) (sl : Bool) (cl up r k r' k' : Int) : Option Int :=
  if besideB r k r' k' = false then none
  else if (slB r k r' k' && !(sl && (openB rows r k' && openB rows r' k))) = true then none
  else if cl < absI (heightB rows r' k' - heightB rows r k) then none
  else some ((if slB r k r' k' = true then 3 else 2) + up * upI (heightB rows r' k' - heightB rows r k))
end Cw
namespace K03
open PySem L2 Cw
def spCost : Sp := fun vs H Q _ => ∃ (a pw p p' : Addr) (rows : List Str) (c : Nat) (sl : Bool) (cl up r k r' k' : Int), vs = [.ref a, .ref pw, .ref p, .ref p'] ∧ FloorAt H a rows c ∧ H pw = some (.tup [.bl sl, .int cl, .int up]) ∧ 0 ≤ up ∧ up ≤ 3 ∧
  H p = some (.tup [.int r, .int k]) ∧ H p' = some (.tup [.int r', .int k']) ∧ openB rows r k = true ∧ openB rows r' k' = true ∧ ∀ H', Same H H' → Q (optV (costB rows sl cl up r k r' k')) H'
section
variable {P : Program} {w : World} {K : PySem.W.Frag} {mg : Str → Option Value} {base : Heap}
abbrev NC : List Str := ["floor", "walker", "one", "other", "is_slanting", "rise", "flat_cost"]
theorem scSC : FnScope NC ["floor", "walker", "one", "other"] (defScope sCost) := ⟨rfl, rfl, rfl, by decide +kernel, rfl, by decide +kernel, by decide +kernel⟩
theorem ok_cost {f fB fC fH : Addr} {fd fdB fdC fdH : FuncData} (F : Fun K "step_cost" "step_cost" sCost f fd) (T : Tx mg) (GB : Call1 P w K mg base "are_beside" 1 ["one", "other"] spBeside fB fdB) (GC : Call1 P w K mg base "has_open_corners" 4 ["floor", "one", "other"] spCorners fC fdC)
    (GH : Call1 P w K mg base "height_at" 5 ["floor", "spot"] spHeight fH fdH) : FnOk P w K mg base CX0 6 f fd ["floor", "walker", "one", "other"] spCost := by
  refine F.ok scSC (fun vs H Q E h => ?_) (fun cdv A outer s H vs Q E hr h => ?_)
  · obtain ⟨a, pw, p, p', rows, c, sl, cl, up, r, k, r', k', rfl, _⟩ := h
    rfl
  · obtain ⟨a, pw, p, p', rows, c, sl, cl, up, r, k, r', k', rfl, hf, hw, u0, u3, hp, hp', ho, ho', q⟩ := h
    obtain ⟨tA, mA⟩ := T.straight
    obtain ⟨tB, mB⟩ := T.slanting
    have hr1 : Room 1 _ := hr.mono (by decide)
    have hr4 : Room 4 _ := hr.mono (by decide)
    have hcx : True := trivial
    -- rise and what follows
    obtain ⟨t4, h4, fin4⟩ : ∃ t4 : TS, PSs (cxOf CX0 P w K mg base NC "step_cost" (defScope sCost) f cdv A outer s H E).nox ((defBody sCost).drop 3) t4 ∧
        ∀ (D : Ends) (G : Hp) (v5 v6 : Option V), D.rt = Q → Same H G →
          (∀ H', Same G H' → Q (optV (if cl < absI (heightB rows r' k' - heightB rows r k) then none else some ((if slB r k r' k' = true then 3 else 2) + up * upI (heightB rows r' k' - heightB rows r k)))) H') →
          t4 D [some (.ref a), some (.ref pw), some (.ref p), some (.ref p'), some (.bl (slB r k r' k')), v5, v6] G := by
      refine ⟨_, pss_cons (ps_set (i := 5) scSC.nd rfl (Or.inl rfl) (pe_op op_sub (pe_call GH.ok hr (by rfl) GH.m GH.kp GH.b .nil pass0 (pa_cons (pv 0) (pa_cons (pv 3) pa_nil))) (pe_call GH.ok hr (by rfl) GH.m GH.kp GH.b .nil pass0 (pa_cons (pv 0) (pa_cons (pv 2) pa_nil)))))
        (pss_cons (ps_if (pt_cmpR op_gt (pe_callB call_abs (by rfl) T.abs (by decide +kernel) (pa_cons (pv 5) pa_nil)) (pe_ix ix_tup (pv 1) pe_int (fun _ _ => rfl)) (nomark _)) (pss_one (ps_ret pe_non)) pss_nil)
        (pss_cons (ps_set (i := 6) scSC.nd rfl (Or.inl rfl) (pe_ifExp (pt_val (pv 4)) (pe_globI (by rfl) mB) (pe_globI (by rfl) mA)))
        (pss_one (ps_ret (pe_op op_add (pv 6) (pe_op op_mul (pe_ix ix_tup (pv 1) pe_int (fun _ _ => rfl)) (pe_callB (call_max2 rfl) (by rfl) T.max (by decide +kernel) (pa_cons (pv 5) (pa_cons pe_int pa_nil))))))))), fun D G v5 v6 hD sG q => ?_⟩
      refine ⟨_, rfl, _, rfl, a, p', rows, c, r', k', rfl, hf.same sG, sG _ _ hp', ho', _, rfl, _, rfl, a, p, rows, c, r, k, rfl, hf.same sG, sG _ _ hp, ho, _, _, rfl, rfl, ?_⟩
      refine ⟨_, rfl, _, rfl, _, rfl, pw, [.bl sl, .int cl, .int up], 1, .int cl, rfl, rfl, SqT.of (sG _ _ hw), atI_nat (j := 1) rfl, _, _, rfl, rfl, _, rfl, ?_⟩
      refine ite2 (fun h5 => ?_) (fun h5 => ?_)
      · have g : cl < absI (heightB rows r' k' - heightB rows r k) := of_decide_eq_true h5
        rw [if_pos g] at q
        show D.rt .non G
        rw [hD]
        exact q G (Same.refl G)
      · have g : ¬ cl < absI (heightB rows r' k' - heightB rows r k) := fun z => h5 (decide_eq_true z)
        rw [if_neg g] at q
        refine ⟨_, rfl, _, rfl, ?_⟩
        have last : ∀ fl : Int, fl = (if slB r k r' k' = true then 3 else 2) → D.rt (.int (fl + up * upI (heightB rows r' k' - heightB rows r k))) G := fun fl e => by
          rw [hD, e]
          exact q G (Same.refl G)
        refine ite2 (fun h6 => ?_) (fun h6 => ?_)
        · exact ⟨_, rfl, _, rfl, pw, [.bl sl, .int cl, .int up], 2, .int up, rfl, rfl, SqT.of (sG _ _ hw), atI_nat (j := 2) rfl, _, rfl, _, _, rfl, _, _, rfl, rfl, .inl ⟨by omega, by omega⟩, _, _, rfl, rfl, last 3 (by rw [if_pos h6])⟩
        · exact ⟨_, rfl, _, rfl, pw, [.bl sl, .int cl, .int up], 2, .int up, rfl, rfl, SqT.of (sG _ _ hw), atI_nat (j := 2) rfl, _, rfl, _, _, rfl, _, _, rfl, rfl, .inl ⟨by omega, by omega⟩, _, _, rfl, rfl, last 2 (by rw [if_neg h6])⟩
    -- the corners
    obtain ⟨t3, h3, fin3⟩ : ∃ t3 : TS, PSs (cxOf CX0 P w K mg base NC "step_cost" (defScope sCost) f cdv A outer s H E).nox ((defBody sCost).drop 2) t3 ∧
        ∀ (D : Ends) (v5 v6 : Option V), D.rt = Q →
          (∀ H', Same H H' → Q (optV (if (slB r k r' k' && !(sl && (openB rows r k' && openB rows r' k))) = true then none else if cl < absI (heightB rows r' k' - heightB rows r k) then none else some ((if slB r k r' k' = true then 3 else 2) + up * upI (heightB rows r' k' - heightB rows r k)))) H') →
          t3 D [some (.ref a), some (.ref pw), some (.ref p), some (.ref p'), some (.bl (slB r k r' k')), v5, v6] H := by
      refine ⟨_, pss_cons (ps_if (pw_and (pt_val (pv 4)) (pw_and1 (pt_not (pw_and (pt_val (pe_ix ix_tup (pv 1) pe_int (fun _ _ => rfl))) (pw_and1 (pt_val (pe_call GC.ok hr4 (by rfl) GC.m GC.kp GC.b .nil pass0 (pa_cons (pv 0) (pa_cons (pv 2) (pa_cons (pv 3) pa_nil))))))).pt))).pt (pss_one (ps_ret pe_non)) pss_nil) h4, fun D v5 v6 hD q => ?_⟩
      refine ⟨_, rfl, _, rfl, ?_⟩
      cases h5 : slB r k r' k' with
      | false =>
        rw [h5, Bool.false_and, if_neg Bool.false_ne_true] at q
        refine iteF (iteF ?_)
        rw [← h5]
        refine fin4 _ H _ _ hD (Same.refl H) ?_
        rw [h5]
        exact q
      | true =>
        rw [h5, Bool.true_and] at q
        refine iteT ⟨_, rfl, pw, [.bl sl, .int cl, .int up], 0, .bl sl, rfl, rfl, SqT.of hw, atI_nat (j := 0) rfl, _, rfl, ?_⟩
        cases sl with
        | false =>
          refine iteF (iteT ?_)
          show D.rt .non H
          rw [hD]
          exact q H (Same.refl H)
        | true =>
          rw [Bool.true_and] at q
          refine iteT ⟨_, rfl, _, rfl, _, rfl, a, p, p', rows, c, r, k, r', k', rfl, hf, hp, hp', fun G sG => ⟨_, rfl, ?_⟩⟩
          cases h6 : (openB rows r k' && openB rows r' k) with
          | false =>
            refine iteT ?_
            rw [h6] at q
            show D.rt .non G
            rw [hD]
            exact q G sG
          | true =>
            refine iteF ?_
            rw [h6] at q
            have q' := fun H' s' => q H' s'
            rw [← h5]
            refine fin4 _ G _ _ hD sG (fun H' s' => ?_)
            rw [h5]
            exact q H' (sG.trans s')
    refine ⟨_, pss_cons (ps_if (pt_not (pt_val (pe_call GB.ok hr1 (by rfl) GB.m GB.kp GB.b .nil pass0 (pa_cons (pv 2) (pa_cons (pv 3) pa_nil))))) (pss_one (ps_ret pe_non)) pss_nil)
      (pss_cons (ps_set (i := 4) scSC.nd rfl (Or.inl rfl) (pe_and (pe_cmpR op_ne (pe_ix ix_tup (pv 2) pe_int (fun _ _ => rfl)) (pe_ix ix_tup (pv 3) pe_int (fun _ _ => rfl)) (nomark _)) (pe_one (pe_cmpR op_ne (pe_ix ix_tup (pv 2) pe_int (fun _ _ => rfl)) (pe_ix ix_tup (pv 3) pe_int (fun _ _ => rfl)) (nomark _)))))
      h3), ?_⟩
    refine ⟨_, rfl, _, rfl, p, p', r, k, r', k', rfl, hp, hp', _, rfl, ?_⟩
    unfold costB at q
    cases h1 : besideB r k r' k' with
    | false =>
      refine iteT ?_
      rw [if_pos h1] at q
      exact q H (Same.refl H)
    | true =>
      refine iteF ?_
      rw [if_neg (by rw [h1]; decide)] at q
      refine ⟨_, rfl, p, [.int r, .int k], 0, .int r, rfl, rfl, SqT.of hp, atI_nat (j := 0) rfl, _, rfl, p', [.int r', .int k'], 0, .int r', rfl, rfl, SqT.of hp', atI_nat (j := 0) rfl, rfl, _, rfl, ?_⟩
      refine ite2 (fun h2 => ?_) (fun h2 => ?_)
      · refine ⟨_, rfl, p, [.int r, .int k], 1, .int k, rfl, rfl, SqT.of hp, atI_nat (j := 1) rfl, _, rfl, p', [.int r', .int k'], 1, .int k', rfl, rfl, SqT.of hp', atI_nat (j := 1) rfl, rfl, ?_⟩
        have e : slB r k r' k' = !decide (V.int k = V.int k') := by
          unfold slB
          rw [show (!decide (V.int r = V.int r')) = true from h2, Bool.true_and]
        have z := fin3 { nx := fun _ H' => Q .non H', rt := Q } none none rfl q
        rw [e] at z
        exact z
      · have e : slB r k r' k' = false := by
          unfold slB
          rw [show (!decide (V.int r = V.int r')) = false from Bool.eq_false_iff.mpr h2, Bool.false_and]
        have z := fin3 { nx := fun _ H' => Q .non H', rt := Q } none none rfl q
        rw [e] at z
        exact z
end
end K03


set_option maxHeartbeats 4000000
namespace Cw
open PySem L2
/-- a value is the spot q -/
def IsSp (H : Hp) (v : V) (q : Int × Int) : Prop := ∃ p, v = .ref p ∧ H p = some (.tup [.int q.1, .int q.2])
def IsSps (H : Hp) : List V → List (Int × Int) → Prop := Paired (IsSp H)
theorem IsSp.same {H H' : Hp} (s : Same H H') {v : V} {q : Int × Int} (h : IsSp H v q) : IsSp H' v q := let ⟨p, e, h⟩ := h; ⟨p, e, s _ _ h⟩
theorem IsSps.same {H H' : Hp} (s : Same H H') {vs : List V} {l : List (Int × Int)} (h : IsSps H vs l) : IsSps H' vs l := Paired.mapP h fun _ _ z => z.same s
theorem IsSp.updL {H : Hp} {l : Addr} {xs ys : List V} (h : H l = some (.lst xs)) {v : V} {q : Int × Int} (z : IsSp H v q) : IsSp (upd H l (.lst ys)) v q :=
  let ⟨p, e, hp⟩ := z
  ⟨p, e, by rw [upd_ne (ne_of hp h (by intro w; cases w))]; exact hp⟩
theorem IsSps.updL {H : Hp} {l : Addr} {xs ys : List V} (h : H l = some (.lst xs)) {vs : List V} {qs : List (Int × Int)} (z : IsSps H vs qs) : IsSps (upd H l (.lst ys)) vs qs := Paired.mapP z fun _ _ w => w.updL h
theorem IsSps.snoc {H : Hp} {vs : List V} {qs : List (Int × Int)} {v : V} {q : Int × Int} (h : IsSps H vs qs) (z : IsSp H v q) : IsSps H (vs ++ [v]) (qs ++ [q]) := Paired.snoc h z
theorem IsSps.length {H : Hp} {vs : List V} {qs : List (Int × Int)} (h : IsSps H vs qs) : vs.length = qs.length := Paired.length h
def keepQ (rows : List Str) (r k : Int) (q : Int × Int) : Bool := !decide (([q.1, q.2] : List Int) = [r, k]) && openB rows q.1 q.2
/-- the columns of a row -/
def rowQ (k : Int) (x : Int) (j : Nat) : List (Int × Int) := (List.range j).map fun n : Nat => (x, k - 1 + (n : Int))
def aroundQ (rows : List Str) (r k : Int) : Nat → List (Int × Int)
  | 0 => []
  | i + 1 => aroundQ rows r k i ++ (rowQ k (r - 1 + (i : Int)) 3).filter (keepQ rows r k)
theorem rowQ_len (rows : List Str) (r k x : Int) (j : Nat) : ((rowQ k x j).filter (keepQ rows r k)).length ≤ j := by
  refine Nat.le_trans (List.length_filter_le _ _) ?_
  unfold rowQ
  rw [List.length_map, List.length_range]
  exact Nat.le_refl _
theorem aroundQ_len (rows : List Str) (r k : Int) : ∀ i, (aroundQ rows r k i).length ≤ 3 * i
  | 0 => by simp [aroundQ]
  | i + 1 => by
    have h := aroundQ_len rows r k i
    have h2 := rowQ_len rows r k (r - 1 + (i : Int)) 3
    unfold aroundQ
    rw [List.length_append]
    omega
theorem aroundQ_open (rows : List Str) (r k : Int) : ∀ i, ∀ q ∈ aroundQ rows r k i, openB rows q.1 q.2 = true
  | 0, q, h => by cases h
  | i + 1, q, h => by
    unfold aroundQ at h
    rcases List.mem_append.mp h with h | h
    · exact aroundQ_open rows r k i q h
    · have := (List.mem_filter.mp h).2
      unfold keepQ at this
      rw [Bool.and_eq_true] at this
      exact this.2
end Cw
namespace K03
open PySem L2 Cw
section
variable {P : Program} {w : World} {K : PySem.W.Frag} {mg : Str → Option Value} {base : Heap}
end
end K03


set_option maxHeartbeats 4000000
namespace Cw
open PySem L2
/-- a value is the pair (spot, cost) -/
def IsSt (H : Hp) (v : V) (q : (Int × Int) × Int) : Prop := ∃ p u, v = .ref p ∧ H p = some (.tup [u, .int q.2]) ∧ IsSp H u q.1
def IsSts (H : Hp) : List V → List ((Int × Int) × Int) → Prop := Paired (IsSt H)
theorem IsSt.same {H H' : Hp} (s : Same H H') {v : V} {q : (Int × Int) × Int} (h : IsSt H v q) : IsSt H' v q := let ⟨p, u, e, h, z⟩ := h; ⟨p, u, e, s _ _ h, z.same s⟩
theorem IsSts.same {H H' : Hp} (s : Same H H') {vs : List V} {l : List ((Int × Int) × Int)} (h : IsSts H vs l) : IsSts H' vs l := Paired.mapP h fun _ _ z => z.same s
theorem IsSt.updL {H : Hp} {l : Addr} {xs ys : List V} (h : H l = some (.lst xs)) {v : V} {q : (Int × Int) × Int} (z : IsSt H v q) : IsSt (upd H l (.lst ys)) v q :=
  let ⟨p, u, e, hp, hu⟩ := z
  ⟨p, u, e, by rw [upd_ne (ne_of hp h (by intro w; cases w))]; exact hp, hu.updL h⟩
theorem IsSts.updL {H : Hp} {l : Addr} {xs ys : List V} (h : H l = some (.lst xs)) {vs : List V} {qs : List ((Int × Int) × Int)} (z : IsSts H vs qs) : IsSts (upd H l (.lst ys)) vs qs := Paired.mapP z fun _ _ w => w.updL h
theorem IsSts.snoc {H : Hp} {vs : List V} {qs : List ((Int × Int) × Int)} {v : V} {q : (Int × Int) × Int} (h : IsSts H vs qs) (z : IsSt H v q) : IsSts H (vs ++ [v]) (qs ++ [q]) := Paired.snoc h z
theorem paired_get {α β : Type} {R : α → β → Prop} : ∀ {xs : List α} {ys : List β}, Paired R xs ys → ∀ {i : Nat} {x : α}, xs[i]? = some x → ∃ y, ys[i]? = some y ∧ R x y
  | _, _, .nil, _, _, h => by simp at h
  | _, _, .cons r t, 0, x, h => by simp at h; subst h; exact ⟨_, rfl, r⟩
  | _, _, .cons r t, i + 1, x, h => by
    obtain ⟨y, h1, h2⟩ := paired_get t (i := i) (x := x) (by simpa using h)
    exact ⟨y, by simpa using h1, h2⟩
def stepQ (rows : List Str) (sl : Bool) (cl up r k : Int) (q : Int × Int) : Option ((Int × Int) × Int) := (costB rows sl cl up r k q.1 q.2).map fun n => (q, n)
/-- the steps from a spot: in the order of the spots around it -/
def stepsQ (rows : List Str) (sl : Bool) (cl up r k : Int) : List ((Int × Int) × Int) := (aroundQ rows r k 3).filterMap (stepQ rows sl cl up r k)
end Cw
namespace K03
open PySem L2 Cw
section
variable {P : Program} {w : World} {K : PySem.W.Frag} {mg : Str → Option Value} {base : Heap}
abbrev NS : List Str := ["floor", "walker", "spot", "steps", "other", "cost"]
end
end K03


set_option maxHeartbeats 4000000
namespace L2
open PySem PySem.Spec PyProof.Rows
open PySem.AutoSeq1 (wpAny_loadPart')
section
variable {prog : Program} {w : World} {A : Around} {E : Value → Shared → Prop} {s : Shared} {jt tu : Addr} {i : Nat} {its : Array Value} {Q : Value → Shared → Prop}
/-! ### enumerate over a tuple -/
theorem nextOf_tup_item {x : Value} (ih : s.heap.IsTupleIter jt tu i) (th : s.heap.IsTuple tu its) (hx : its[i]? = some x)
    (k : ∀ g, g.IsTupleIter jt tu (i + 1) → Heap.SameBut jt s.heap g → Q x { s with heap := g }) : wpAny (model prog w) A (Builtin.SmallTypes.nextOf (.ref jt)) Q E s := by
  obtain ⟨ob, e1, e2, e3⟩ := id ih
  obtain ⟨ot, f1, _, nn, f2⟩ := th
  unfold Builtin.SmallTypes.nextOf
  refine wpAny_bind (wpAny_callSpecial?_slot (name := Str.ofString "__next__") ih.typeIs F.slot_tuple_iterator_next (wpAny_call_entry F.slot_tuple_iterator_next ih.typeIs F.entry_tuple_iterator_next ?_ (F.args_tuple_iterator_next_1 _)))
  show wpAny _ _ (field (.ref jt) 0 >>= _) _ _ s
  refine wpAny_bind (wpAny_field e1 e3 (x := .ref tu) rfl ?_)
  show wpAny _ _ (if (Value.ref tu == Value.none) = true then _ else _) _ _ s
  rw [if_neg (show ¬ ((Value.ref tu == Value.none) = true) from Bool.false_ne_true)]
  show wpAny _ _ (field (.ref jt) 1 >>= _) _ _ s
  refine wpAny_bind (wpAny_field e1 e3 (x := .int i 0) rfl ?_)
  show wpAny _ _ (seqItems? (.ref tu) >>= _) _ _ s
  refine wpAny_bind (wpAny_seqItems f1 f2 ?_)
  simp only [Int.toNat_natCast, hx]
  refine wpAny_bind (wpAny_setField e1 e3 (by simp) (wpAny_pure ⟨x, rfl, wpAny_pure (k _ ?_ (Heap.SameBut.update ..))⟩))
  exact ⟨_, Heap.get?_update_self _ e1 (Obj.isFreed_of_fields (Obj.data_mapFields e3 _)), (Obj.cls_mapFields ..).trans e2, by rw [Obj.data_mapFields e3]; simp [rawInt]⟩
theorem nextOf_tup_end (hh : A.handled = none) (ih : s.heap.IsTupleIter jt tu i) (th : s.heap.IsTuple tu its) (hx : its[i]? = none)
    (k : ∀ g e, Heap.ExtBut jt s.heap g → (∃ o, g.get? e = some o ∧ o.cls = .type "StopIteration") → E (.ref e) { s with heap := g }) : wpAny (model prog w) A (Builtin.SmallTypes.nextOf (.ref jt)) Q E s := by
  obtain ⟨ob, e1, e2, e3⟩ := id ih
  obtain ⟨ot, f1, _, nn, f2⟩ := th
  unfold Builtin.SmallTypes.nextOf
  refine wpAny_bind (wpAny_callSpecial?_slot (name := Str.ofString "__next__") ih.typeIs F.slot_tuple_iterator_next (wpAny_call_entry F.slot_tuple_iterator_next ih.typeIs F.entry_tuple_iterator_next ?_ (F.args_tuple_iterator_next_1 _)))
  show wpAny _ _ (field (.ref jt) 0 >>= _) _ _ s
  refine wpAny_bind (wpAny_field e1 e3 (x := .ref tu) rfl ?_)
  show wpAny _ _ (if (Value.ref tu == Value.none) = true then _ else _) _ _ s
  rw [if_neg (show ¬ ((Value.ref tu == Value.none) = true) from Bool.false_ne_true)]
  show wpAny _ _ (field (.ref jt) 1 >>= _) _ _ s
  refine wpAny_bind (wpAny_field e1 e3 (x := .int i 0) rfl ?_)
  show wpAny _ _ (seqItems? (.ref tu) >>= _) _ _ s
  refine wpAny_bind (wpAny_seqItems f1 f2 ?_)
  simp only [Int.toNat_natCast, hx]
  refine wpAny_bind (wpAny_rule (wpAny_bind (wpAny_setField e1 e3 (by simp) ?_)))
  show wpAny _ _ (newExc (.type "StopIteration") [] >>= _) _ _ _
  refine wpAny_bind ?_
  simp only [newExc, newTuple]
  refine wpAny_bind (wpAny_newObj_type ?_ (by size_fits))
  refine wpAny_bind (m := firstArgMember _ _) (wpAny_of_eq (a := Value.none) (by first | rfl | (simp only [firstArgMember]; rfl)) ?_)
  refine wpAny_newObj_type ?_ (by size_fits)
  simp only [raiseNew]
  refine wpAny_bind (wpAny_handled ?_)
  first | rw [show A.in1.handled = none from hh] | rw [hh]
  refine wpAny_bind (wpAny_pure (wpAny_throw ?_))
  exact k _ _ (((Heap.SameBut.update ..).extBut.push _).push _) ⟨_, Heap.get?_push_size _ rfl, rfl⟩
end
theorem draws_tup {prog : Program} {w : World} {A : Around} (hh : A.handled = none) (jt tu : Addr) (hne : tu ≠ jt) (its : Array Value) :
    Draws prog w A jt [jt, tu] its.size (fun i v => its[i]? = some v) (fun i h => h.IsTupleIter jt tu i ∧ h.IsTuple tu its) where
  live := fun _ _ st => let ⟨o, ho, _⟩ := st.1; ⟨o, ho⟩
  frame := fun _ _ _ st hk => ⟨st.1.at fun o e => hk jt (by simp) o e, by obtain ⟨o, e, r⟩ := st.2; exact ⟨o, hk tu (by simp) o e, r⟩⟩
  item := fun i s Q E hi st hQ => nextOf_tup_item st.1 st.2 (x := its[i]) (by simp [hi]) fun g ig sb => hQ _ g s.toks (by simp [hi]) ⟨ig, by obtain ⟨o, e, r⟩ := st.2; exact ⟨o, sb.extBut _ _ hne e, r⟩⟩ sb
  done := fun s Q E st hE => nextOf_tup_end hh st.1 st.2 (by simp) hE
theorem enum_newT (l : Addr) (items : Array Value) (n : Nat) (dct : Option Addr) (sl : Array (Option Value)) :
    Meets (Builtin.«enumerate.__new__» ⟨[.type "enumerate", .ref l], []⟩) (fun _ R s => s.heap.get? l = some { cls := .type "tuple", dict := dct, data := .seq items n, slots := sl } ∧
      R (.ok (.ret (.ref (s.heap.push { cls := .type "tuple_iterator", data := .fields #[.ref l, .int 0 0] }).objs.size)))
        { s with heap := (s.heap.push { cls := .type "tuple_iterator", data := .fields #[.ref l, .int 0 0] }).push { cls := .type "enumerate", data := .fields #[.none, .bool false, .ref s.heap.objs.size, rawInt 0, .none, .none] } }) :=
  .of_wp fun prog w A R s h => by
    obtain ⟨hp, g, d, tk, os⟩ := s
    obtain ⟨hl, h⟩ := h
    have hsub := sub_enumerate
    have hL : Heap.IsTuple (Shared.heap ⟨hp, g, d, tk, os⟩) l items := ⟨_, hl, rfl, n, rfl⟩
    wp_walk using wpAny_loadPart' hl
    refine wpAny_stack_any fun st => wpAny_pure ?_
    split
    · rename_i c _ _ _ _ _
      cases (c == Value.type "enumerate") <;> (wp_walk using wpAny_loadPart' hl, wpAny_pyIter_tuple hL; exact ⟨_, rfl, h⟩)
    · wp_walk using wpAny_loadPart' hl, wpAny_pyIter_tuple hL
      exact ⟨_, rfl, h⟩
end L2


set_option maxHeartbeats 4000000
namespace L2
open PySem PySem.Spec PyProof.Rows
theorem ne_cls {h : Heap} {a b : Addr} {o1 o2 : Obj} (h1 : h.get? a = some o1) (h2 : h.get? b = some o2) (hc : o1.cls ≠ o2.cls) : a ≠ b := fun z => by
  subst z
  rw [h1] at h2
  cases h2
  exact hc rfl
theorem strIter_cases (z : Str) : strIterType z = "str_ascii_iterator" ∨ strIterType z = "str_iterator" := by
  unfold strIterType
  split
  · exact .inl rfl
  · exact .inr rfl
/-- a turn of enumerate, unpacked at once: a new pair -/
theorem enum_step {X : Cx} {pins : List (Addr × Obj)} {σ : St} {H : Hp} {s : Shared} {E : Value → Shared → Prop} {e it : Addr} {fpD : List Addr} {n i : Nat} {Pv : Nat → Value → Prop} {Sv : Nat → Heap → Prop} {old : Value} {Gx : V → Prop} {elts : List Expr} {x1 : Nat} {pos : Pos}
    (I : Inv X pins σ H s) (D : Draws X.prog X.w X.A.in1 it fpD n Pv Sv) (he : IsEnum s.heap e it i old) (hst : Sv i s.heap) (hlt : i < n) (hne : e ≠ it) (hef : e ∉ fpD) (hf : ∀ b ∈ [e, it], FpOk X pins H b) (hP : ∀ u, Pv i u → ∃ x, RelV x u ∧ Gx x) :
    wpAny (model X.prog X.w) X.A (pyNext (.ref e)) (fun r s1 => ∃ u, r = some u ∧ wpAny (model X.prog X.w) X.A (letOwnedTupleGo (.Tuple elts x1 pos) (.ref e) u) (fun _ s2 => ∃ x p, u = .ref p ∧ Gx x ∧ H p = none ∧ e ≠ p ∧ it ≠ p ∧
      Inv X pins σ (upd H p (.tup [.int i, x])) s2 ∧ (∃ old', IsEnum s2.heap e it ((i : Int) + 1) old') ∧ Sv (i + 1) s2.heap) E s1) E s := by
  refine wpAny_pyNext_enum_itemD D he hst hlt hne hef fun u h' tk pu ho st' ht hz kk => ?_
  obtain ⟨x, rx, gx⟩ := hP u pu
  obtain ⟨f0, f1, f2, f3, f4, f5⟩ := hf e (by simp)
  obtain ⟨g0, g1, g2, g3, g4, g5⟩ := hf it (by simp)
  have hnew : H s.heap.objs.size = none := I.hok.fresh (Nat.le_refl _)
  obtain ⟨oi, hoi⟩ := D.live _ _ hst
  have hep : e ≠ s.heap.objs.size := Nat.ne_of_lt (Heap.lt_size he)
  have hip : it ≠ s.heap.objs.size := Nat.ne_of_lt (Heap.lt_size hoi)
  have neH : ∀ b o, H b = some o → b ≠ e ∧ b ≠ it ∧ b ≠ s.heap.objs.size := fun b o q => ⟨(fun z => (by rw [z, f0] at q; cases q)), (fun z => (by rw [z, g0] at q; cases q)), Nat.ne_of_lt (I.hok.lt q)⟩
  have I1 : Inv X pins σ (upd H s.heap.objs.size (.tup [.int i, x])) { s with heap := h', toks := tk + 1 } := by
    refine I.step (g' := s.gens) (d' := s.drawn) (ch := [e, it]) (fun b hb => ?_) (fun b o _ _ hc q _ => kk b o (fun z => hc (by simp [z])) (fun z => hc (by simp [z])) q)
      (fun b o _ _ hc q _ => ⟨o.slots, kk b o (fun z => hc (by simp [z])) (fun z => hc (by simp [z])) q⟩) (fun b o _ q nb => by rw [upd_ne (Nat.ne_of_lt (Heap.lt_size q))]; exact nb)
      (fun b o hc q => ⟨o, kk b o (fun z => hc (by simp [z])) (fun z => hc (by simp [z])) q⟩) (fun b xs q => by rw [upd_ne (neH b _ q).2.2]; exact q) (fun b o u q => by rw [upd_ne (neH b _ q).2.2]; exact q)
      (fun b ps q => ⟨#[], by rw [upd_ne (neH b _ q).2.2, q]; simp⟩) (fun m hm => ?_) (fun b o q => ?_) I.bare
    · rcases List.mem_cons.mp hb with z | z
      · subst z; exact ⟨f3, f1, f4, f5⟩
      · rw [List.mem_singleton.mp z]; exact ⟨g3, g1, g4, g5⟩
    · obtain ⟨o, es, ep, q, r⟩ := hm
      exact ⟨o, es, ep, kk _ o (Ne.symm f1) (Ne.symm g1) q, r⟩
    · by_cases hb : b = s.heap.objs.size
      · subst hb
        rw [upd_same] at q
        cases q
        exact ⟨(show 2 ≤ sizeLine by decide), [.int i tk, u], .cons ⟨tk, rfl⟩ (.cons rx .nil), ⟨_, ht, rfl, _, rfl⟩⟩
      · rw [upd_ne hb] at q
        refine (I.hok b o q).stay (fun c v hc z => kk c v ?_ ?_ z) (fun c z => by rw [upd_ne (neH c _ z).2.2]; exact z) fun c xs z => by rw [upd_ne (neH c _ z).2.2]; exact z
        · rcases hc with z' | z'
          · rw [z']; exact (neH b o q).1
          · exact (neH c _ z').1
        · rcases hc with z' | z'
          · rw [z']; exact (neH b o q).2.1
          · exact (neH c _ z').2.1
  refine ⟨_, rfl, wpAny_letOwnedTupleGo_enum ho fun h2 he2 sb => ?_⟩
  refine ⟨x, s.heap.objs.size, rfl, gx, hnew, hep, hip, I1.turned (t' := tk + 1) (it := e) (fun b o hb q => sb.extBut b o hb q) (by rw [upd_ne hep]; exact f0) f1 f3 f4 f5, ⟨_, he2⟩, D.frame _ _ _ st' fun b hb o q => sb.extBut b o (fun z => hef (z ▸ hb)) q⟩
/-- enumerate(t): the pairs of t's items -/
def Ite (K : PySem.W.Frag) (a : Addr) (xs : List V) : It :=
  ⟨fun i H => SqT K H a xs ∧ i < xs.length, fun i H v H' => ∃ p x, v = .ref p ∧ H p = none ∧ H' = upd H p (.tup [.int (i : Nat), x]) ∧ xs[i]? = some x, fun i H => SqT K H a xs ∧ i = xs.length⟩
def Ies (z : Str) : It :=
  ⟨fun i _ => i < z.cps.size, fun i H v H' => ∃ p c, v = .ref p ∧ H p = none ∧ H' = upd H p (.tup [.int (i : Nat), .str ⟨#[c]⟩]) ∧ z.cps[i]? = some c, fun i _ => i = z.cps.size⟩
theorem turn_enumT {P : Program} {w : World} {K : PySem.W.Frag} {elts : List Expr} {x1 : Nat} {pos : Pos} (a e it : Addr) (xs : List V) : Turn P w K (.Tuple elts x1 pos) (Ite K a xs) [e, it] e (fun i h => (∃ old, IsEnum h e it i old) ∧ h.IsTupleIter it a i) where
  mem := by simp
  obj := fun i h st b hb => by
    obtain ⟨⟨old, he⟩, o, ho, _, hd⟩ := st
    rcases List.mem_cons.mp hb with z | z
    · subst z; exact ⟨_, he, fun v q => by cases q⟩
    · rw [List.mem_singleton.mp z]; exact ⟨o, ho, fun v q => by rw [hd] at q; cases q⟩
  keep := fun i h h' st k => ⟨by obtain ⟨old, he⟩ := st.1; exact ⟨old, k e (by simp) _ he⟩, st.2.at fun o q => k it (by simp) o q⟩
  item := by
    intro X hP hw hK hc i pins s σ H E I hf st hg
    subst hP hw hK
    obtain ⟨hq, hlt⟩ := hg
    obtain ⟨⟨old, he⟩, hit⟩ := st
    obtain ⟨its, rv, p, hz⟩ := I.tuple hq
    have hl := rv.length
    have hit0 := hit
    obtain ⟨oi, e1, e2, _⟩ := hit
    obtain ⟨oa, a1, a2, _⟩ := id p
    have nea : a ≠ it := ne_cls a1 e1 (by rw [a2, e2]; decide +kernel)
    have nee : e ≠ it := ne_cls he e1 (by rw [e2]; show Value.type "enumerate" ≠ _; decide +kernel)
    have neae : e ≠ a := ne_cls he a1 (by rw [a2]; show Value.type "enumerate" ≠ _; decide +kernel)
    refine thn (enum_step (Gx := fun x => xs[i]? = some x) I (draws_tup (A := X.A.in1) (I.ok.hd hc) it a nea its.toArray) he ⟨hit0, p⟩ (by rw [List.size_toArray]; omega) nee (by simp [nee, neae]) hf (fun u hu => ?_)) fun r s1 ⟨u, hr, k⟩ => ⟨u, hr, thn k fun _ s2 ⟨x, q, z1, z2, z3, z4, z5, z6, z7, z8⟩ => ?_⟩
    · have hxi : xs[i]? = some xs[i] := List.getElem?_eq_getElem hlt
      obtain ⟨u', hu', ru'⟩ := rv.get hxi
      have : its.toArray[i]? = some u' := by simpa using hu'
      have hu2 : its.toArray[i]? = some u := hu
      rw [this] at hu2
      cases hu2
      exact ⟨xs[i], ru', hxi⟩
    · exact ⟨.ref q, _, z6, z1.symm ▸ rfl, ⟨q, x, rfl, z3, rfl, z2⟩, ⟨z7, z8.1⟩, fun b hb => by
        rcases List.mem_cons.mp hb with w | w
        · rw [w, upd_ne z4]; exact (hf e (by simp)).1
        · rw [List.mem_singleton.mp w, upd_ne z5]; exact (hf it (by simp)).1⟩
  done := by
    intro X hP hw hK hc i pins s σ H E I hf st hg
    subst hP hw hK
    obtain ⟨hq, rfl⟩ := hg
    obtain ⟨⟨old, he⟩, hit⟩ := st
    obtain ⟨its, rv, p, hz⟩ := I.tuple hq
    have hl := rv.length
    have hit0 := hit
    obtain ⟨oi, e1, e2, _⟩ := hit
    obtain ⟨oa, a1, a2, _⟩ := id p
    have nea : a ≠ it := ne_cls a1 e1 (by rw [a2, e2]; decide +kernel)
    obtain ⟨g0, g1, g2, g3, g4, g5⟩ := hf it (by simp)
    refine wpAny_pyNext_enum_endD (draws_tup (A := X.A.in1) (I.ok.hd hc) it a nea its.toArray) he ⟨by rw [List.size_toArray, ← hl]; exact hit0, p⟩ fun h' eb => ⟨rfl, I.turned (t' := s.toks) (fun b o hb q => eb b o hb q) g0 g1 g3 g4 g5⟩
  self := fun _ _ _ _ _ st h => by obtain ⟨⟨old, he⟩, _⟩ := st; exact wpAny_pyIter_enum he h
end L2


set_option maxHeartbeats 4000000
namespace L2
open PySem PySem.Spec PyProof.Rows
theorem call_enum_tup {prog : Program} {w : World} {A : Around} {E : Value → Shared → Prop} {s : Shared} {l : Addr} {items : Array Value} {Q : Value → Shared → Prop} (hL : IsTup s.heap l items)
    (h : ∀ g, IsEnum g (s.heap.objs.size + 1) s.heap.objs.size 0 .none → g.IsTupleIter s.heap.objs.size l 0 → (∀ b o, s.heap.get? b = some o → g.get? b = some o) → Q (.ref (s.heap.objs.size + 1)) { s with heap := g }) :
    wpAny (model prog w) A (call (.type "enumerate") [.ref l]) Q E s := by
  obtain ⟨⟨cls, dd, data, sl⟩, ho, hc, n, hd⟩ := id hL
  simp only at hc hd
  subst hc hd
  have hz : (s.heap.push { cls := .type "tuple_iterator", data := .fields #[.ref l, .int 0 0] }).objs.size = s.heap.objs.size + 1 := Heap.size_push ..
  refine callType_new F.called_enumerate (by decide) (F.typeCall_enumerate_1 _) (F.newCall_enumerate_1 _) (fun obj => F.args_object_init_2 obj _) F.entry_enumerate_new (enum_newT l items n dd sl) ⟨ho, ?_⟩
  show _ ∧ _
  rw [hz]
  have he : IsEnum ((s.heap.push { cls := .type "tuple_iterator", data := .fields #[.ref l, .int 0 0] }).push { cls := .type "enumerate", data := .fields #[.none, .bool false, .ref s.heap.objs.size, rawInt 0, .none, .none] }) (s.heap.objs.size + 1) s.heap.objs.size 0 .none := by
    have q := Heap.get?_push_size (s.heap.push { cls := .type "tuple_iterator", data := .fields #[.ref l, .int 0 0] }) (o := { cls := .type "enumerate", data := .fields #[.none, .bool false, .ref s.heap.objs.size, rawInt 0, .none, .none] }) rfl
    rw [hz] at q
    exact q
  exact ⟨⟨_, he, rfl⟩, h _ he ⟨_, Heap.get?_push_of_some _ (Heap.get?_push_size _ rfl), rfl, rfl⟩ fun b o x => Heap.get?_push_of_some _ (Heap.get?_push_of_some _ x)⟩
section
variable {X : Cx} {elts : List Expr} {x1 : Nat} {tpos : Pos}
def iEnT (K : PySem.W.Frag) (ta : TA) : TI := fun σ H R => ta σ H fun vs H1 => ∃ a xs, vs = [.ref a] ∧ SqT K H1 a xs ∧ R (Ite K a xs) H1
theorem pi_enumT {a : Expr} {ta : TA} {p pos : Pos} (hg : Gl X "enumerate") (hm : X.mg "enumerate" = none) (ha : PA X [a] ta) (hs : starEach [a] X.env = [(false, eval a X.env)] := by rfl) : PI X (.Tuple elts x1 tpos) (.Call (.Name "enumerate" p) [a] [] pos) (iEnT X.K ta) := by
  intro pins s σ H R I h
  refine Call_ (ld_blt I hg hm boot_enumerate (PyProof.Rows.callWith_type1 (thn (ha pos pins s σ H _ I h) fun us s1 ⟨vs, H1, I1, r1, q1⟩ => ?_) hs rfl))
  obtain ⟨a, xs, e, hq, q⟩ := q1
  subst e
  obtain ⟨u, rfl, ru⟩ := vals1 r1
  cases ru
  obtain ⟨its, rv, pt, hz⟩ := I1.tuple hq
  refine call_enum_tup pt fun g he hi kp => wpAny_pyIter_enum he ?_
  have I2 : Inv X pins σ H1 { s1 with heap := g } := I1.kept (t' := s1.toks) kp
  refine ⟨s1.heap.objs.size + 1, [s1.heap.objs.size + 1, s1.heap.objs.size], _, _, H1, rfl, I2, turn_enumT a _ s1.heap.objs.size xs, ⟨⟨_, he⟩, hi⟩, fun b hb => ?_, q⟩
  have hb' : s1.heap.objs.size ≤ b := by
    rcases List.mem_cons.mp hb with z | z
    · rw [z]; exact Nat.le_succ _
    · rw [List.mem_singleton.mp z]; exact Nat.le_refl _
  exact I1.fpOk hb' (I1.hok.fresh hb')
end
theorem turn_enumS {P : Program} {w : World} {K : PySem.W.Frag} {elts : List Expr} {x1 : Nat} {pos : Pos} (z : Str) (t : Tok) (e it : Addr) : Turn P w K (.Tuple elts x1 pos) (Ies z) [e, it] e (fun i h => (∃ old, IsEnum h e it i old) ∧ h.IsStrIter it (strIterType z) z t i) where
  mem := by simp
  obj := fun i h st b hb => by
    obtain ⟨⟨old, he⟩, o, ho, _, hd⟩ := st
    rcases List.mem_cons.mp hb with q | q
    · subst q; exact ⟨_, he, fun v q => by cases q⟩
    · rw [List.mem_singleton.mp q]; exact ⟨o, ho, fun v q => by rw [hd] at q; cases q⟩
  keep := fun i h h' st k => ⟨by obtain ⟨old, he⟩ := st.1; exact ⟨old, k e (by simp) _ he⟩, by obtain ⟨o, q, r⟩ := st.2; exact ⟨o, k it (by simp) o q, r⟩⟩
  item := by
    intro X hP hw hK hc i pins s σ H E I hf st hg
    subst hP hw hK
    have hlt : i < z.cps.size := hg
    obtain ⟨⟨old, he⟩, hit⟩ := st
    have hit0 := hit
    obtain ⟨oi, e1, e2, _⟩ := hit
    have nee : e ≠ it := ne_cls he e1 (by
      rw [e2]
      show Value.type "enumerate" ≠ _
      rcases strIter_cases z with q | q <;> rw [q] <;> decide +kernel)
    have fin : ∀ {Sv : Nat → Heap → Prop}, Draws X.prog X.w X.A.in1 it [it] z.cps.size (fun i v => ∃ c u, z.cps[i]? = some c ∧ v = .str ⟨#[c]⟩ u) Sv → Sv i s.heap → (∀ h, Sv (i + 1) h → h.IsStrIter it (strIterType z) z t (i + 1)) →
        wpAny (model X.prog X.w) X.A (pyNext (.ref e)) (fun r s1 => ∃ u, r = some u ∧ wpAny (model X.prog X.w) X.A (letOwnedTupleGo (.Tuple elts x1 pos) (.ref e) u) (fun _ s2 => ∃ x H', Inv X pins σ H' s2 ∧ RelV x u ∧ (Ies z).yld i H x H' ∧ ((∃ old, IsEnum s2.heap e it (((i + 1 : Nat)) : Int) old) ∧ s2.heap.IsStrIter it (strIterType z) z t (i + 1)) ∧ ∀ b ∈ [e, it], H' b = none) E s1) E s := by
      intro Sv D hst back
      refine thn (enum_step (Gx := fun x => ∃ c, x = .str ⟨#[c]⟩ ∧ z.cps[i]? = some c) I D he hst hlt nee (by simp [nee]) hf (fun u ⟨c, tk, hc, hu⟩ => ⟨.str ⟨#[c]⟩, ⟨tk, hu⟩, c, rfl, hc⟩)) fun r s1 ⟨u, hr, k⟩ => ⟨u, hr, thn k fun _ s2 ⟨x, q, z1, ⟨c, z2, z2'⟩, z3, z4, z5, z6, z7, z8⟩ => ?_⟩
      subst z2
      exact ⟨.ref q, _, z6, z1.symm ▸ rfl, ⟨q, c, rfl, z3, rfl, z2'⟩, ⟨z7, back _ z8⟩, fun b hb => by
        rcases List.mem_cons.mp hb with w | w
        · rw [w, upd_ne z4]; exact (hf e (by simp)).1
        · rw [List.mem_singleton.mp w, upd_ne z5]; exact (hf it (by simp)).1⟩
    rcases strIter_cases z with q | q
    · rw [q] at hit0 ⊢
      rw [q] at fin
      exact fin (Draws.strAscii (A := X.A.in1) (I.ok.hd hc) it z t) hit0 fun h st => st
    · rw [q] at hit0 ⊢
      rw [q] at fin
      exact fin (Draws.strWide (A := X.A.in1) (I.ok.hd hc) it z t) hit0 fun h st => st
  done := by
    intro X hP hw hK hc i pins s σ H E I hf st hg
    subst hP hw hK
    have hi : i = z.cps.size := hg
    subst hi
    obtain ⟨⟨old, he⟩, hit⟩ := st
    obtain ⟨g0, g1, g2, g3, g4, g5⟩ := hf it (by simp)
    rcases strIter_cases z with q | q
    · rw [q] at hit
      exact wpAny_pyNext_enum_endD (Draws.strAscii (A := X.A.in1) (I.ok.hd hc) it z t) he hit fun h' eb => ⟨rfl, I.turned (t' := s.toks) (fun b o hb q => eb b o hb q) g0 g1 g3 g4 g5⟩
    · rw [q] at hit
      exact wpAny_pyNext_enum_endD (Draws.strWide (A := X.A.in1) (I.ok.hd hc) it z t) he hit fun h' eb => ⟨rfl, I.turned (t' := s.toks) (fun b o hb q => eb b o hb q) g0 g1 g3 g4 g5⟩
  self := fun _ _ _ _ _ st h => by obtain ⟨⟨old, he⟩, _⟩ := st; exact wpAny_pyIter_enum he h
section
variable {X : Cx} {elts : List Expr} {x1 : Nat} {tpos : Pos}
def iEnS (ta : TA) : TI := fun σ H R => ta σ H fun vs H1 => ∃ z, vs = [.str z] ∧ R (Ies z) H1
theorem pi_enumS {a : Expr} {ta : TA} {p pos : Pos} (hg : Gl X "enumerate") (hm : X.mg "enumerate" = none) (ha : PA X [a] ta) (hs : starEach [a] X.env = [(false, eval a X.env)] := by rfl) : PI X (.Tuple elts x1 tpos) (.Call (.Name "enumerate" p) [a] [] pos) (iEnS ta) := by
  intro pins s σ H R I h
  refine Call_ (ld_blt I hg hm boot_enumerate (PyProof.Rows.callWith_type1 (thn (ha pos pins s σ H _ I h) fun us s1 ⟨vs, H1, I1, r1, q1⟩ => ?_) hs rfl))
  obtain ⟨z, e, q⟩ := q1
  subst e
  obtain ⟨u, rfl, t, rfl⟩ := vals1 r1
  refine call_enumerate_str fun g he hi hz kp => wpAny_pyIter_enum he ?_
  have I2 : Inv X pins σ H1 { s1 with heap := g } := I1.kept (t' := s1.toks) kp
  refine ⟨s1.heap.objs.size + 1, [s1.heap.objs.size + 1, s1.heap.objs.size], _, _, H1, rfl, I2, turn_enumS z t _ s1.heap.objs.size, ⟨⟨_, he⟩, hi⟩, fun b hb => ?_, q⟩
  have hb' : s1.heap.objs.size ≤ b := by
    rcases List.mem_cons.mp hb with z | z
    · rw [z]; exact Nat.le_succ _
    · rw [List.mem_singleton.mp z]; exact Nat.le_refl _
  exact I1.fpOk hb' (I1.hok.fresh hb')
end
end L2


set_option maxHeartbeats 4000000
namespace L2
open PySem PySem.Spec PyProof.Rows
/-- what a for asks of its iterator (the reading of a for, opened once) -/
def ForR (J : It) (g : TG) (tb : TS) (D : Ends) (σ : St) (H1 : Hp) : Prop := ∃ W : Nat → Nat → St → Hp → Prop, (∃ m, W 0 m σ H1) ∧ ∀ i m σ H, W i m σ H →
  (J.stop i H ∧ D.nx σ H) ∨ (J.go i H ∧ ∃ N : St → Hp → Prop, (∀ σ' H', N σ' H' → ∃ m', m' < m ∧ W (i + 1) m' σ' H') ∧ ∀ x H', J.yld i H x H' → g x σ H' fun σ2 H2 => tb { D with nx := N, ct := N, bk := D.nx } σ2 H2)
theorem for_enumT {K : PySem.W.Frag} {a : Addr} {xs : List V} {g : TG} {tb : TS} {D : Ends} {σ : St} {H : Hp} (Pv : Nat → St → Hp → Prop) (h0 : Pv 0 σ H) (hl : ∀ i σ H, i ≤ xs.length → Pv i σ H → SqT K H a xs)
    (hs : ∀ i x σ H p, xs[i]? = some x → Pv i σ H → H p = none → g (.ref p) σ (upd H p (.tup [.int (i : Nat), x])) fun σ2 H2 => tb { D with nx := Pv (i + 1), ct := Pv (i + 1), bk := D.nx } σ2 H2) (hd : ∀ σ H, Pv xs.length σ H → D.nx σ H) : ForR (Ite K a xs) g tb D σ H := by
  refine ⟨fun i m σ H => m = xs.length - i ∧ i ≤ xs.length ∧ Pv i σ H, ⟨xs.length, by simp, Nat.zero_le _, h0⟩, ?_⟩
  rintro i m σ H ⟨rfl, hi, p⟩
  have q := hl i σ H hi p
  by_cases hlt : i < xs.length
  · refine .inr ⟨⟨q, hlt⟩, Pv (i + 1), fun σ' H' p' => ⟨xs.length - (i + 1), by omega, rfl, hlt, p'⟩, fun v H' y => ?_⟩
    obtain ⟨pp, x, rfl, hn, rfl, hx⟩ := y
    exact hs i x σ H pp hx p hn
  · have e : i = xs.length := by omega
    subst e
    exact .inl ⟨⟨q, rfl⟩, hd σ H p⟩
end L2
namespace Cw
open PySem L2
def openRowQ (rows : List Str) (i : Nat) (j : Nat) : List (Int × Int) := ((List.range j).map fun n : Nat => ((i : Int), (n : Int))).filter fun q => openB rows q.1 q.2
def openQ (rows : List Str) (c : Nat) : Nat → List (Int × Int)
  | 0 => []
  | i + 1 => openQ rows c i ++ openRowQ rows i c
theorem openRowQ_succ (rows : List Str) (i j : Nat) : openRowQ rows i (j + 1) = openRowQ rows i j ++ (if openB rows (i : Int) (j : Int) = true then [((i : Int), (j : Int))] else []) := by
  unfold openRowQ
  rw [List.range_succ, List.map_append, List.filter_append]
  congr 1
  rw [List.map_singleton]
  cases h : openB rows (i : Int) (j : Int) <;> simp [h]
theorem openRowQ_len (rows : List Str) (i j : Nat) : (openRowQ rows i j).length ≤ j := by
  refine Nat.le_trans (List.length_filter_le _ _) ?_
  rw [List.length_map, List.length_range]
  exact Nat.le_refl _
theorem openQ_len (rows : List Str) (c : Nat) : ∀ i, (openQ rows c i).length ≤ c * i
  | 0 => by simp [openQ]
  | i + 1 => by
    have h := openQ_len rows c i
    have h2 := openRowQ_len rows i c
    unfold openQ
    rw [List.length_append, Nat.mul_succ]
    omega
end Cw
namespace K03
open PySem L2 Cw
def spOpens : Sp := fun vs H Q _ => ∃ (a : Addr) (rows : List Str) (c : Nat), vs = [.ref a] ∧ FloorAt H a rows c ∧ ∀ l vs H', H l = none → Same H H' → H' l = some (.lst vs) → IsSps H' vs (openQ rows c rows.length) → Q (.ref l) H'
section
variable {P : Program} {w : World} {K : PySem.W.Frag} {mg : Str → Option Value} {base : Heap}
end
end K03


set_option maxHeartbeats 4000000
namespace Cw
open PySem L2
theorem hash_eq (x : Nat) : decide (V.str ⟨#[x]⟩ = V.str "#") = !(x != 35) := by
  rw [← wall_ne, Bool.not_not]
theorem upI_eq (i : Int) : upI i = if 0 < i then i else 0 := by
  unfold upI
  split <;> split <;> omega
end Cw
namespace K03
open PySem L2 Cw
abbrev lCost : Stmt := top 30
abbrev lSteps : Stmt := top 31
def spLCost : Sp := fun vs H Q _ => ∃ (a pw p p' : Addr) (rows : List Str) (c : Nat) (sl : Bool) (cl up r k r' k' : Int), vs = [.ref a, .ref pw, .ref p, .ref p'] ∧ FloorAt H a rows c ∧ H pw = some (.tup [.bl sl, .int cl, .int up]) ∧ 0 ≤ cl ∧ 0 ≤ up ∧ up ≤ 3 ∧
  H p = some (.tup [.int r, .int k]) ∧ H p' = some (.tup [.int r', .int k']) ∧ openB rows r k = true ∧ openB rows r' k' = true ∧ besideB r k r' k' = true ∧ Q (optV (costB rows sl cl up r k r' k')) H
section
variable {P : Program} {w : World} {K : PySem.W.Frag} {mg : Str → Option Value} {base : Heap}
abbrev NLC : List Str := ["_law_floor_here", "_law_walker_here", "_law_spot", "_law_goal", "_law_rise", "_law_cost_here"]
theorem scLC : FnScope NLC ["_law_floor_here", "_law_walker_here", "_law_spot", "_law_goal"] (defScope lCost) := ⟨rfl, rfl, rfl, by decide +kernel, rfl, by decide +kernel, by decide +kernel⟩
theorem ok_lcost {f : Addr} {fd : FuncData} (F : Fun K "_law_cost" "_law_cost" lCost f fd) (T : Tx mg) : FnOk P w K mg base CX0 1 f fd ["_law_floor_here", "_law_walker_here", "_law_spot", "_law_goal"] spLCost := by
  refine F.ok scLC (fun vs H Q E h => ?_) (fun cdv A outer s H vs Q E hr h => ?_)
  · obtain ⟨a, pw, p, p', rows, c, sl, cl, up, r, k, r', k', rfl, _⟩ := h
    rfl
  · obtain ⟨a, pw, p, p', rows, c, sl, cl, up, r, k, r', k', rfl, hf, hw, cl0, u0, u3, hp, hp', ho, ho', hbs, q⟩ := h
    have hcm := hf.ok.cm
    obtain ⟨r0, r1, k0, k1⟩ := onB_true (openB_on hf.ok ho)
    obtain ⟨r0', r1', k0', k1'⟩ := onB_true (openB_on hf.ok ho')
    have digit : ∀ {x y : Int} {cc : Nat}, Cw.codeAt rows x y = some cc → sgn cc = true → openB rows x y = true → 48 ≤ cc ∧ cc ≤ 57 ∧ heightB rows x y = (cc : Int) - 48 := fun {x y cc} h1 h2 h3 => by
      unfold openB at h3
      rw [h1] at h3
      have h4 : cc ≠ 35 := by simpa using h3
      unfold sgn at h2
      simp at h2
      refine ⟨by omega, by omega, ?_⟩
      unfold heightB
      rw [h1]
    obtain ⟨z, x, hz, hx, hc, hs, hl⟩ := codeAt_in hf.ok r0 r1 k0 k1
    obtain ⟨z', x', hz', hx', hc', hs', hl'⟩ := codeAt_in hf.ok r0' r1' k0' k1'
    obtain ⟨y, yx, hy, hyx, hyc, hys, hyl⟩ := codeAt_in hf.ok r0 r1 k0' k1'
    obtain ⟨y', yx', hy', hyx', hyc', hys', hyl'⟩ := codeAt_in hf.ok r0' r1' k0 k1
    obtain ⟨d1, d2, d3⟩ := digit hc hs ho
    obtain ⟨d1', d2', d3'⟩ := digit hc' hs' ho'
    have o1 : openB rows r k' = (yx != 35) := by unfold openB; rw [hyc]
    have o2 : openB rows r' k = (yx' != 35) := by unfold openB; rw [hyc']
    have small : ∀ {n : Nat}, n = c → n ≤ sizeLine := fun {n} e => by rw [e]; exact Nat.le_trans hcm (by decide)
    have sp0 := SqT.of (K := K) hp
    have sp0' := SqT.of (K := K) hp'
    have sw := SqT.of (K := K) hw
    have sf := SqT.of (K := K) hf.at_
    unfold costB at q
    rw [if_neg (by rw [hbs]; decide)] at q
    -- the return
    obtain ⟨t5, h5, fin5⟩ : ∃ t5 : TS, PSs (cxOf CX0 P w K mg base NLC "_law_cost" (defScope lCost) f cdv A outer s H E).nox ((defBody lCost).drop 4) t5 ∧
        ∀ (D : Ends) (fl : Int), D.rt = Q → Q (.int (fl + up * upI (heightB rows r' k' - heightB rows r k))) H → t5 D [some (.ref a), some (.ref pw), some (.ref p), some (.ref p'), some (.int (heightB rows r' k' - heightB rows r k)), some (.int fl)] H := by
      refine ⟨_, pss_one (ps_ret (pe_op op_add (pv 5) (pe_ifExp (pt_cmpR op_gt (pv 4) pe_int (nomark _)) (pe_op op_mul (pe_ix ix_tup (pv 1) pe_int (fun _ _ => rfl)) (pv 4)) pe_int))), fun D fl hD q => ?_⟩
      refine ⟨_, rfl, _, rfl, _, _, rfl, rfl, _, rfl, ?_⟩
      rw [upI_eq] at q
      refine ite2 (fun h1 => ?_) (fun h1 => ?_)
      · rw [if_pos (of_decide_eq_true h1)] at q
        refine ⟨_, rfl, pw, [.bl sl, .int cl, .int up], 2, .int up, rfl, rfl, sw, atI_nat (j := 2) rfl, _, rfl, _, _, rfl, rfl, .inl ⟨by omega, by omega⟩, _, _, rfl, rfl, ?_⟩
        show D.rt _ H
        rw [hD]
        exact q
      · rw [if_neg (fun z => h1 (decide_eq_true z)), Int.mul_zero] at q
        refine ⟨_, _, rfl, rfl, ?_⟩
        show D.rt _ H
        rw [hD]
        exact q
    refine ⟨_, pss_cons (ps_set (i := 4) scLC.nd rfl (Or.inl rfl) (pe_op op_sub
        (pe_callTy call_int_txt (by rfl) T.int (by decide +kernel) (pa_cons (pe_ix ix_str (pe_ix ix_tup (pv 0) (pe_ix ix_tup (pv 3) pe_int (fun _ _ => rfl)) (fun _ _ => rfl)) (pe_ix ix_tup (pv 3) pe_int (fun _ _ => rfl)) (fun _ _ => rfl)) pa_nil))
        (pe_callTy call_int_txt (by rfl) T.int (by decide +kernel) (pa_cons (pe_ix ix_str (pe_ix ix_tup (pv 0) (pe_ix ix_tup (pv 2) pe_int (fun _ _ => rfl)) (fun _ _ => rfl)) (pe_ix ix_tup (pv 2) pe_int (fun _ _ => rfl)) (fun _ _ => rfl)) pa_nil))))
      (pss_cons (ps_set (i := 5) scLC.nd rfl (Or.inl rfl) pe_int)
      (pss_cons (ps_if (pw_or (pt_cmpR op_gt (pv 4) (pe_ix ix_tup (pv 1) pe_int (fun _ _ => rfl)) (nomark _)) (pw_or1 (pt_cmpR op_gt (pe_op op_sub pe_int (pv 4)) (pe_ix ix_tup (pv 1) pe_int (fun _ _ => rfl)) (nomark _)))).pt (pss_one (ps_ret pe_non)) pss_nil)
      (pss_cons (ps_if (pw_and (pt_cmpR op_ne (pe_ix ix_tup (pv 2) pe_int (fun _ _ => rfl)) (pe_ix ix_tup (pv 3) pe_int (fun _ _ => rfl)) (nomark _)) (pw_and1 (pt_cmpR op_ne (pe_ix ix_tup (pv 2) pe_int (fun _ _ => rfl)) (pe_ix ix_tup (pv 3) pe_int (fun _ _ => rfl)) (nomark _)))).pt
        (pss_cons (ps_if (pw_or (pt_not (pt_val (pe_ix ix_tup (pv 1) pe_int (fun _ _ => rfl)))) (pw_or (pt_cmpR op_eq (pe_ix ix_str (pe_ix ix_tup (pv 0) (pe_ix ix_tup (pv 2) pe_int (fun _ _ => rfl)) (fun _ _ => rfl)) (pe_ix ix_tup (pv 3) pe_int (fun _ _ => rfl)) (fun _ _ => rfl)) pe_str (nomark _))
          (pw_or1 (pt_cmpR op_eq (pe_ix ix_str (pe_ix ix_tup (pv 0) (pe_ix ix_tup (pv 3) pe_int (fun _ _ => rfl)) (fun _ _ => rfl)) (pe_ix ix_tup (pv 2) pe_int (fun _ _ => rfl)) (fun _ _ => rfl)) pe_str (nomark _))))).pt (pss_one (ps_ret pe_non)) pss_nil)
        (pss_one (ps_set (i := 5) scLC.nd rfl (Or.inl rfl) pe_int))) pss_nil)
      h5))), ?_⟩
    -- rise
    refine ⟨_, rfl, _, rfl, p', [.int r', .int k'], 0, .int r', rfl, rfl, sp0', atI_nat (j := 0) rfl, a, _, r', .str z', rfl, rfl, sf, atI_of r0' (by rw [List.getElem?_map, hz']; rfl), _, rfl, p', [.int r', .int k'], 1, .int k', rfl, rfl, sp0', atI_nat (j := 1) rfl, z', k', x', rfl, rfl, small hl', atI_of k0' hx',
      _, _, rfl, digit_int x' d1' d2', (by show 1 ≤ 640; decide), _, rfl, _, rfl, p, [.int r, .int k], 0, .int r, rfl, rfl, sp0, atI_nat (j := 0) rfl, a, _, r, .str z, rfl, rfl, sf, atI_of r0 (by rw [List.getElem?_map, hz]; rfl), _, rfl, p, [.int r, .int k], 1, .int k, rfl, rfl, sp0, atI_nat (j := 1) rfl, z, k, x, rfl, rfl, small hl, atI_of k0 hx,
      _, _, rfl, digit_int x d1 d2, (by show 1 ≤ 640; decide), _, _, rfl, rfl, ?_⟩
    rw [← d3, ← d3']
    refine ⟨_, rfl, _, rfl, pw, [.bl sl, .int cl, .int up], 1, .int cl, rfl, rfl, sw, atI_nat (j := 1) rfl, _, _, rfl, rfl, _, rfl, ?_⟩
    have none_of : cl < absI (heightB rows r' k' - heightB rows r k) → Q .non H := fun g => by
      rw [if_pos g] at q
      split at q <;> exact q
    refine ite2 (fun h1 => ?_) (fun h1 => ?_)
    · have g : cl < heightB rows r' k' - heightB rows r k := of_decide_eq_true h1
      refine iteT (none_of ?_)
      unfold absI
      split <;> omega
    · have g1 : ¬ cl < heightB rows r' k' - heightB rows r k := fun z => h1 (decide_eq_true z)
      refine ⟨_, rfl, _, _, rfl, rfl, _, rfl, pw, [.bl sl, .int cl, .int up], 1, .int cl, rfl, rfl, sw, atI_nat (j := 1) rfl, _, _, rfl, rfl, _, rfl, ?_⟩
      refine ite2 (fun h2 => ?_) (fun h2 => ?_)
      · have g : cl < 0 - (heightB rows r' k' - heightB rows r k) := of_decide_eq_true h2
        refine none_of ?_
        unfold absI
        split <;> omega
      · have g2 : ¬ cl < 0 - (heightB rows r' k' - heightB rows r k) := fun z => h2 (decide_eq_true z)
        have g : ¬ cl < absI (heightB rows r' k' - heightB rows r k) := by
          unfold absI
          split <;> omega
        rw [if_neg g] at q
        refine ⟨_, rfl, p, [.int r, .int k], 0, .int r, rfl, rfl, sp0, atI_nat (j := 0) rfl, _, rfl, p', [.int r', .int k'], 0, .int r', rfl, rfl, sp0', atI_nat (j := 0) rfl, rfl, _, rfl, ?_⟩
        refine ite2 (fun h3 => ?_) (fun h3 => ?_)
        · refine ⟨_, rfl, p, [.int r, .int k], 1, .int k, rfl, rfl, sp0, atI_nat (j := 1) rfl, _, rfl, p', [.int r', .int k'], 1, .int k', rfl, rfl, sp0', atI_nat (j := 1) rfl, rfl, _, rfl, ?_⟩
          refine ite2 (fun h4 => ?_) (fun h4 => ?_)
          · have e : slB r k r' k' = true := by
              unfold slB
              rw [show (!decide (V.int r = V.int r')) = true from h3, show (!decide (V.int k = V.int k')) = true from h4]
              rfl
            rw [e, Bool.true_and, if_pos rfl] at q
            refine ⟨_, rfl, pw, [.bl sl, .int cl, .int up], 0, .bl sl, rfl, rfl, sw, atI_nat (j := 0) rfl, _, rfl, ?_⟩
            cases sl with
            | false => exact iteT (iteT q)
            | true =>
              rw [Bool.true_and] at q
              refine iteF ⟨_, rfl, _, rfl, p, [.int r, .int k], 0, .int r, rfl, rfl, sp0, atI_nat (j := 0) rfl, a, _, r, .str y, rfl, rfl, sf, atI_of r0 (by rw [List.getElem?_map, hy]; rfl), _, rfl, p', [.int r', .int k'], 1, .int k', rfl, rfl, sp0', atI_nat (j := 1) rfl, y, k', yx, rfl, rfl, small hyl, atI_of k0' hyx, rfl, _, rfl, ?_⟩
              rw [hash_eq, ← o1]
              cases ho1 : openB rows r k' with
              | false =>
                rw [ho1] at q
                exact iteT (iteT q)
              | true =>
                rw [ho1, Bool.true_and] at q
                refine iteF ⟨_, rfl, _, rfl, p', [.int r', .int k'], 0, .int r', rfl, rfl, sp0', atI_nat (j := 0) rfl, a, _, r', .str y', rfl, rfl, sf, atI_of r0' (by rw [List.getElem?_map, hy']; rfl), _, rfl, p, [.int r, .int k], 1, .int k, rfl, rfl, sp0, atI_nat (j := 1) rfl, y', k, yx', rfl, rfl, small hyl', atI_of k0 hyx', rfl, _, rfl, ?_⟩
                rw [hash_eq, ← o2]
                cases ho2 : openB rows r' k with
                | false =>
                  rw [ho2] at q
                  exact iteT q
                | true =>
                  rw [ho2] at q
                  exact iteF (fin5 _ 3 rfl q)
          · have e : slB r k r' k' = false := by
              unfold slB
              rw [show (!decide (V.int k = V.int k')) = false from Bool.eq_false_iff.mpr h4, Bool.and_false]
            rw [e, Bool.false_and, if_neg Bool.false_ne_true, if_neg Bool.false_ne_true] at q
            exact fin5 _ 2 rfl q
        · have e : slB r k r' k' = false := by
            unfold slB
            rw [show (!decide (V.int r = V.int r')) = false from Bool.eq_false_iff.mpr h3, Bool.false_and]
          rw [e, Bool.false_and, if_neg Bool.false_ne_true, if_neg Bool.false_ne_true] at q
          exact iteF (fin5 _ 2 rfl q)
end
end K03


set_option maxHeartbeats 4000000
namespace Cw
open PySem L2
/-- the first j of the nine spots about a spot -/
def nineQ (r k : Int) (j : Nat) : List (Int × Int) := (List.range j).map fun n : Nat => (r - 1 + (n : Int) / 3, k - 1 + (n : Int) % 3)
theorem around_nine (rows : List Str) (r k : Int) : aroundQ rows r k 3 = (nineQ r k 9).filter (keepQ rows r k) := by
  have e : nineQ r k 9 = rowQ k (r - 1 + ((0 : Nat) : Int)) 3 ++ rowQ k (r - 1 + ((1 : Nat) : Int)) 3 ++ rowQ k (r - 1 + ((2 : Nat) : Int)) 3 := by
    unfold nineQ rowQ
    rfl
  rw [e, List.filter_append, List.filter_append]
  rfl
def lstepsQ (rows : List Str) (sl : Bool) (cl up r k : Int) (j : Nat) : List ((Int × Int) × Int) := ((nineQ r k j).filter (keepQ rows r k)).filterMap (stepQ rows sl cl up r k)
theorem lsteps_nine (rows : List Str) (sl : Bool) (cl up r k : Int) : lstepsQ rows sl cl up r k 9 = stepsQ rows sl cl up r k := by
  unfold lstepsQ stepsQ
  rw [around_nine]
theorem lsteps_no {rows : List Str} {sl : Bool} {cl up r k : Int} {j : Nat} (h : keepQ rows r k (r - 1 + (j : Int) / 3, k - 1 + (j : Int) % 3) = false) : lstepsQ rows sl cl up r k (j + 1) = lstepsQ rows sl cl up r k j := by
  unfold lstepsQ nineQ
  rw [List.range_succ, List.map_append, List.filter_append, List.map_singleton]
  simp [h]
theorem lsteps_yes {rows : List Str} {sl : Bool} {cl up r k : Int} {j : Nat} (h : keepQ rows r k (r - 1 + (j : Int) / 3, k - 1 + (j : Int) % 3) = true) : lstepsQ rows sl cl up r k (j + 1) = lstepsQ rows sl cl up r k j ++ (stepQ rows sl cl up r k (r - 1 + (j : Int) / 3, k - 1 + (j : Int) % 3)).toList := by
  unfold lstepsQ nineQ
  rw [List.range_succ, List.map_append, List.filter_append, List.map_singleton, List.filterMap_append]
  congr 1
  cases e : stepQ rows sl cl up r k (r - 1 + (j : Int) / 3, k - 1 + (j : Int) % 3) <;> simp [h, e]
theorem keep_open {rows : List Str} {r k : Int} {q : Int × Int} (h : openB rows q.1 q.2 = false) : keepQ rows r k q = false := by
  unfold keepQ
  rw [h, Bool.and_false]
theorem mid_four {r k : Int} {j : Nat} (hj : j < 9) : decide (([r - 1 + (j : Int) / 3, k - 1 + (j : Int) % 3] : List Int) = [r, k]) = decide (j = 4) := by
  refine decide_eq_decide.mpr ⟨fun h => ?_, fun h => ?_⟩
  · injection h with h1 h2
    injection h2 with h2 _
    omega
  · subst h
    congr 1
    · omega
    · congr 1
      omega
theorem beside_nine {r k : Int} {j : Nat} (hj : j < 9) (h4 : j ≠ 4) : besideB r k (r - 1 + (j : Int) / 3) (k - 1 + (j : Int) % 3) = true := by
  unfold besideB
  have e : decide (([r, k] : List Int) = [r - 1 + (j : Int) / 3, k - 1 + (j : Int) % 3]) = false := by
    refine decide_eq_false fun z => ?_
    have := (decide_eq_decide.mp (mid_four (r := r) (k := k) hj)).mp z.symm
    exact h4 this
  rw [e, decide_eq_true (by unfold absI; split <;> omega), decide_eq_true (by unfold absI; split <;> omega)]
  rfl
end Cw
namespace K03
open PySem L2 Cw
def spLSteps : Sp := fun vs H Q _ => ∃ (a pw p : Addr) (rows : List Str) (c : Nat) (sl : Bool) (cl up r k : Int), vs = [.ref a, .ref pw, .ref p] ∧ FloorAt H a rows c ∧ H pw = some (.tup [.bl sl, .int cl, .int up]) ∧ 0 ≤ cl ∧ 0 ≤ up ∧ up ≤ 3 ∧
  H p = some (.tup [.int r, .int k]) ∧ openB rows r k = true ∧ ∀ l vs H', H l = none → Same H H' → H' l = some (.lst vs) → IsSts H' vs (stepsQ rows sl cl up r k) → Q (.ref l) H'
section
variable {P : Program} {w : World} {K : PySem.W.Frag} {mg : Str → Option Value} {base : Heap}
abbrev NLS : List Str := ["_law_floor_here", "_law_walker_here", "_law_spot", "_law_made", "_law_k", "_law_row", "_law_column", "_law_cost_here"]
theorem scLS : FnScope NLS ["_law_floor_here", "_law_walker_here", "_law_spot"] (defScope lSteps) := ⟨rfl, rfl, rfl, by decide +kernel, rfl, by decide +kernel, by decide +kernel⟩
theorem ok_lsteps {f fC : Addr} {fd fdC : FuncData} (F : Fun K "_law_steps" "_law_steps" lSteps f fd) (T : Tx mg) (GC : Call1 P w K mg base "_law_cost" 1 ["_law_floor_here", "_law_walker_here", "_law_spot", "_law_goal"] spLCost fC fdC) : FnOk P w K mg base CX0 2 f fd ["_law_floor_here", "_law_walker_here", "_law_spot"] spLSteps := by
  refine F.ok scLS (fun vs H Q E h => ?_) (fun cdv A outer s H vs Q E hr h => ?_)
  · obtain ⟨a, pw, p, rows, c, sl, cl, up, r, k, rfl, _⟩ := h
    rfl
  · obtain ⟨a, pw, p, rows, c, sl, cl, up, r, k, rfl, hf, hw, cl0, u0, u3, hp, ho, q⟩ := h
    refine ⟨_, pss_cons (ps_set (i := 3) scLS.nd rfl (Or.inl rfl) (pe_lst pa_nil))
      (pss_cons (ps_for PassesOwn.never rfl (pi_range1 rfl T.range (pa_cons pe_int pa_nil)) (pg_name (i := 4) scLS.nd rfl (Or.inl rfl))
        (pss_cons (ps_set (i := 5) scLS.nd rfl (Or.inl rfl) (pe_op op_add (pe_op op_sub (pe_ix ix_tup (pv 2) pe_int (fun _ _ => rfl)) pe_int) (pe_op op_fdiv (pv 4) pe_int)))
        (pss_cons (ps_set (i := 6) scLS.nd rfl (Or.inl rfl) (pe_op op_add (pe_op op_sub (pe_ix ix_tup (pv 2) pe_int (fun _ _ => rfl)) pe_int) (pe_op op_mod (pv 4) pe_int)))
        (pss_one (ps_if (pw_and (pt_chain op_le op_lt pe_int (pv 5) (pe_callB call_len_seq (by rfl) T.len PySem.boot_len (pa_cons (pv 0) pa_nil)))
            (pw_and (pt_chain op_le op_lt pe_int (pv 6) (pe_callB call_len_str (by rfl) T.len PySem.boot_len (pa_cons (pe_ix ix_tup (pv 0) pe_int (fun _ _ => rfl)) pa_nil)))
            (pw_and (pt_cmpR op_ne (pv 4) pe_int (nomark _))
            (pw_and1 (pt_cmpR op_ne (pe_ix ix_str (pe_ix ix_tup (pv 0) (pv 5) (fun _ _ => rfl)) (pv 6) (fun _ _ => rfl)) pe_str (nomark _)))))).pt
          (pss_cons (ps_set (i := 7) scLS.nd rfl (Or.inl rfl) (pe_call GC.ok hr (by rfl) GC.m GC.kp GC.b .nil pass0 (pa_cons (pv 0) (pa_cons (pv 1) (pa_cons (pv 2) (pa_cons (pe_tup (pa_cons (pv 5) (pa_cons (pv 6) pa_nil))) pa_nil))))))
          (pss_one (ps_if (pt_cmpR op_notN (pv 7) pe_non (nomark _))
            (pss_one (ps_expr (pe_bm PySem.F.plainAttrs_list PySem.F.slot_list_append PySem.F.type_list_append mt_append (pv 3) (pa_cons (pe_tup (pa_cons (pe_tup (pa_cons (pv 5) (pa_cons (pv 6) pa_nil))) (pa_cons (pv 7) pa_nil))) pa_nil)))) pss_nil))) pss_nil)))))
      (pss_one (ps_ret (pv 3)))), ?_⟩
    have hrm := hf.ok.rm
    have hcm := hf.ok.cm
    obtain ⟨r0, r1, k0, k1⟩ := onB_true (openB_on hf.ok ho)
    refine ⟨(by decide), fun ps hps => ?_⟩
    have s0 := same_upd (o := .lst []) hps
    have keep : ∀ {G : Hp} {o : HO}, Same H G → Same H (upd G ps o) := fun {G o} s' b u e => by rw [upd_ne (ne_of_none e hps)]; exact s' b u e
    refine ⟨9, rfl, by decide, by decide, ?_⟩
    refine for_range (lo := 0) (n := 9) (fun i σ G => ∃ (ws : List V) (v4 v5 v6 v7 : Option V), σ = [some (.ref a), some (.ref pw), some (.ref p), some (.ref ps), v4, v5, v6, v7] ∧ Same H G ∧ G ps = some (.lst ws) ∧ ws.length ≤ i ∧ IsSts G ws (lstepsQ rows sl cl up r k i)) ⟨[], none, none, none, none, rfl, s0, upd_same, Nat.le_refl _, .nil⟩ ?_ ?_
    · rintro j σ G hj ⟨ws, v4, v5, v6, v7, rfl, sG, hG, hwl, hws⟩
      rw [Int.zero_add]
      have skip : ∀ {G' : Hp} {v7' : Option V}, Same G G' → keepQ rows r k (r - 1 + (j : Int) / 3, k - 1 + (j : Int) % 3) = false →
          ∃ (ws : List V) (v4 v5 v6 v7 : Option V), [some (.ref a), some (.ref pw), some (.ref p), some (.ref ps), some (.int (j : Int)), some (.int (r - 1 + (j : Int) / 3)), some (.int (k - 1 + (j : Int) % 3)), v7'] = [some (.ref a), some (.ref pw), some (.ref p), some (.ref ps), v4, v5, v6, v7] ∧ Same H G' ∧ G' ps = some (.lst ws) ∧ ws.length ≤ j + 1 ∧ IsSts G' ws (lstepsQ rows sl cl up r k (j + 1)) := fun {G' v7'} s' hk =>
        ⟨ws, _, _, _, _, rfl, sG.trans s', s' _ _ hG, by omega, by rw [lsteps_no hk]; exact hws.same s'⟩
      have sp0 := SqT.of (K := K) (sG _ _ hp)
      have sf := SqT.of (K := K) (sG _ _ hf.at_)
      have small : ∀ {n : Nat}, n = c → n ≤ sizeLine := fun {n} e => by rw [e]; exact Nat.le_trans hcm (by decide)
      refine ⟨_, rfl, p, [.int r, .int k], 0, .int r, rfl, rfl, sp0, atI_nat (j := 0) rfl, _, _, rfl, rfl, _, rfl, _, _, rfl, rfl, ⟨(by decide), (by decide)⟩, _, _, rfl, rfl, ?_⟩
      refine ⟨_, rfl, p, [.int r, .int k], 1, .int k, rfl, rfl, sp0, atI_nat (j := 1) rfl, _, _, rfl, rfl, _, rfl, _, _, rfl, rfl, (show (0 : Int) < 3 by decide), _, _, rfl, rfl, ?_⟩
      have out : openB rows (r - 1 + (j : Int) / 3) (k - 1 + (j : Int) % 3) = false → keepQ rows r k (r - 1 + (j : Int) / 3, k - 1 + (j : Int) % 3) = false := fun h => keep_open h
      refine ⟨_, rfl, _, _, rfl, rfl, _, rfl, ?_⟩
      refine ite2 (fun h1 => ?_) (fun h1 => ?_)
      · refine ⟨_, rfl, a, _, rfl, .inr sf, _, _, rfl, rfl, _, rfl, ?_⟩
        rw [List.length_map]
        refine ite2 (fun h2 => ?_) (fun h2 => ?_)
        · have R0 : 0 ≤ r - 1 + (j : Int) / 3 := of_decide_eq_true h1
          have R1 : r - 1 + (j : Int) / 3 < rows.length := of_decide_eq_true h2
          obtain ⟨z0, hz0, hz0l⟩ : ∃ z, rows[0]? = some z ∧ z.length = c := by
            have h0 : 0 < rows.length := by omega
            exact ⟨rows[0], List.getElem?_eq_getElem h0, by have := (hf.ok.row rows[0] (List.getElem_mem h0)).1; simpa [Str.length] using this⟩
          refine ⟨_, rfl, _, _, rfl, rfl, _, rfl, ?_⟩
          refine ite2 (fun h3 => ?_) (fun h3 => ?_)
          · refine ⟨_, rfl, a, _, 0, .str z0, rfl, rfl, sf, atI_nat (j := 0) (by rw [List.getElem?_map, hz0]; rfl), _, rfl, small hz0l, _, _, rfl, rfl, _, rfl, ?_⟩
            rw [hz0l]
            refine ite2 (fun h4 => ?_) (fun h4 => ?_)
            · have C0 : 0 ≤ k - 1 + (j : Int) % 3 := of_decide_eq_true h3
              have C1 : k - 1 + (j : Int) % 3 < c := of_decide_eq_true h4
              refine ⟨_, rfl, rfl, _, rfl, ?_⟩
              refine ite2 (fun h5 => ?_) (fun h5 => ?_)
              · have h5' : j ≠ 4 := fun z => by subst z; exact absurd h5 (by decide)
                obtain ⟨z, x, hz, hx, hc, hs, hl⟩ := codeAt_in hf.ok R0 R1 C0 C1
                have o1 : openB rows (r - 1 + (j : Int) / 3) (k - 1 + (j : Int) % 3) = (x != 35) := by unfold openB; rw [hc]
                refine ⟨_, rfl, _, rfl, a, _, r - 1 + (j : Int) / 3, .str z, rfl, rfl, sf, atI_of R0 (by rw [List.getElem?_map, hz]; rfl), _, rfl, z, k - 1 + (j : Int) % 3, x, rfl, rfl, small hl, atI_of C0 hx, rfl, _, rfl, ?_⟩
                rw [wall_ne, ← o1]
                cases ho' : openB rows (r - 1 + (j : Int) / 3) (k - 1 + (j : Int) % 3) with
                | false => exact iteF (skip (fun _ _ h => h) (out ho'))
                | true =>
                  have hk : keepQ rows r k (r - 1 + (j : Int) / 3, k - 1 + (j : Int) % 3) = true := by
                    unfold keepQ
                    show (!decide (([r - 1 + (j : Int) / 3, k - 1 + (j : Int) % 3] : List Int) = [r, k]) && openB rows (r - 1 + (j : Int) / 3) (k - 1 + (j : Int) % 3)) = true
                    rw [mid_four hj, ho', decide_eq_false h5']
                    rfl
                  have ey := lsteps_yes (sl := sl) (cl := cl) (up := up) hk
                  refine iteT ⟨_, rfl, _, rfl, _, rfl, _, rfl, _, rfl, (show 2 ≤ sizeLine by decide), fun n1 g1 => ?_⟩
                  have s1 := same_upd (o := .tup [.int (r - 1 + (j : Int) / 3), .int (k - 1 + (j : Int) % 3)]) g1
                  refine ⟨a, pw, p, n1, rows, c, sl, cl, up, r, k, r - 1 + (j : Int) / 3, k - 1 + (j : Int) % 3, rfl, hf.same (sG.trans s1), s1 _ _ (sG _ _ hw), cl0, u0, u3, s1 _ _ (sG _ _ hp), upd_same, ho, ho', beside_nine hj h5', ?_⟩
                  refine ⟨_, rfl, rfl, _, rfl, ?_⟩
                  cases hcost : costB rows sl cl up r k (r - 1 + (j : Int) / 3) (k - 1 + (j : Int) % 3) with
                  | none =>
                    have e : stepQ rows sl cl up r k (r - 1 + (j : Int) / 3, k - 1 + (j : Int) % 3) = none := by unfold stepQ; rw [hcost]; rfl
                    rw [e, Option.toList_none, List.append_nil] at ey
                    refine iteF ⟨ws, _, _, _, _, rfl, sG.trans s1, s1 _ _ hG, by omega, ?_⟩
                    rw [ey]
                    exact hws.same s1
                  | some n =>
                    have e : stepQ rows sl cl up r k (r - 1 + (j : Int) / 3, k - 1 + (j : Int) % 3) = some ((r - 1 + (j : Int) / 3, k - 1 + (j : Int) % 3), n) := by unfold stepQ; rw [hcost]; rfl
                    rw [e] at ey
                    refine iteT ⟨_, rfl, .inl ⟨rfl, _, SqL.of (s1 _ _ hG)⟩, _, rfl, _, rfl, (show 2 ≤ sizeLine by decide), fun n2 g2 => ?_⟩
                    have s2 := s1.trans (same_upd (o := .tup [.int (r - 1 + (j : Int) / 3), .int (k - 1 + (j : Int) % 3)]) g2)
                    refine ⟨_, rfl, (show 2 ≤ sizeLine by decide), fun n3 g3 => ?_⟩
                    have s3' := same_upd (o := .tup [.ref n2, .int n]) g3
                    have s3 := s2.trans s3'
                    refine ⟨ps, ws, _, rfl, rfl, s3 _ _ hG, Nat.lt_of_le_of_lt (show ws.length ≤ 1000 by omega) (by decide), ?_⟩
                    refine ⟨ws ++ [.ref n3], _, _, _, _, rfl, keep (sG.trans s3), upd_same, by rw [List.length_append, List.length_singleton]; omega, ?_⟩
                    rw [ey]
                    exact IsSts.updL (s3 _ _ hG) ((hws.same s3).snoc ⟨n3, .ref n2, rfl, upd_same, ⟨n2, rfl, s3' _ _ upd_same⟩⟩)
              · have h5' : j = 4 := by
                  refine Decidable.byContradiction fun z => h5 ?_
                  rw [show decide (V.int (j : Int) = V.int 4) = false from decide_eq_false (fun y => z (by injection y with y; omega))]
                  rfl
                have kq : keepQ rows r k (r - 1 + (j : Int) / 3, k - 1 + (j : Int) % 3) = false := by
                  unfold keepQ
                  show (!decide (([r - 1 + (j : Int) / 3, k - 1 + (j : Int) % 3] : List Int) = [r, k]) && openB rows (r - 1 + (j : Int) / 3) (k - 1 + (j : Int) % 3)) = false
                  rw [mid_four hj, decide_eq_true h5']
                  rfl
                first | exact skip (fun _ _ h => h) kq | exact iteF (skip (fun _ _ h => h) kq) | exact iteF (iteF (skip (fun _ _ h => h) kq))
            · have kq := out (openB_out hf.ok (by unfold onB; rw [Bool.eq_false_iff.mpr h4]; simp))
              first | exact skip (fun _ _ h => h) kq | exact ⟨_, rfl, skip (fun _ _ h => h) kq⟩ | exact iteF (skip (fun _ _ h => h) kq) | exact ⟨_, rfl, iteF (skip (fun _ _ h => h) kq)⟩ | exact iteF (iteF (skip (fun _ _ h => h) kq)) | exact ⟨_, rfl, iteF (iteF (skip (fun _ _ h => h) kq))⟩
          · have kq := out (openB_out hf.ok (by unfold onB; rw [Bool.eq_false_iff.mpr h3]; simp))
            first | exact skip (fun _ _ h => h) kq | exact ⟨_, rfl, skip (fun _ _ h => h) kq⟩ | exact iteF (skip (fun _ _ h => h) kq) | exact ⟨_, rfl, iteF (skip (fun _ _ h => h) kq)⟩ | exact iteF (iteF (skip (fun _ _ h => h) kq)) | exact ⟨_, rfl, iteF (iteF (skip (fun _ _ h => h) kq))⟩
        · have kq := out (openB_out hf.ok (by unfold onB; rw [Bool.eq_false_iff.mpr h2]; simp))
          first | exact skip (fun _ _ h => h) kq | exact ⟨_, rfl, skip (fun _ _ h => h) kq⟩ | exact iteF (skip (fun _ _ h => h) kq) | exact ⟨_, rfl, iteF (skip (fun _ _ h => h) kq)⟩ | exact iteF (iteF (skip (fun _ _ h => h) kq)) | exact ⟨_, rfl, iteF (iteF (skip (fun _ _ h => h) kq))⟩
      · have kq := out (openB_out hf.ok (by unfold onB; rw [Bool.eq_false_iff.mpr h1]; simp))
        first | exact skip (fun _ _ h => h) kq | exact ⟨_, rfl, skip (fun _ _ h => h) kq⟩ | exact iteF (skip (fun _ _ h => h) kq) | exact ⟨_, rfl, iteF (skip (fun _ _ h => h) kq)⟩ | exact iteF (iteF (skip (fun _ _ h => h) kq)) | exact ⟨_, rfl, iteF (iteF (skip (fun _ _ h => h) kq))⟩
    · rintro σ G ⟨ws, v4, v5, v6, v7, rfl, sG, hG, hwl, hws⟩
      rw [lsteps_nine] at hws
      exact ⟨_, rfl, q ps ws G hps sG hG hws⟩
end
end K03


set_option maxHeartbeats 4000000
namespace L2
open PySem PySem.Spec PyProof.Rows
section
variable {X : Cx} {pins : List (Addr × Obj)} {σ : St} {H : Hp} {s : Shared} {scope : Scope} {xs ys : List Str} {is : List Nat}
/-- .. with one test -/
theorem compLoop_if {prog : Program} {w : World} {A : Around} {R : Result → Shared → Prop} {s : Shared} {elt target iter tst : Expr} {scope : Scope} {pos : Pos} {it acc : Value} {env : Env} (I : Nat → Shared → Prop)
    (turn : ∀ n s, I n s → wpAny (model prog w) A (pyNext it) (fun r s₁ => match r with
      | none => R (.ok .next) s₁
      | some v => wpAny (model prog w) A (letOwnedTupleGo target it v) (fun _ s₁' => wpAny (model prog w) A (assign target env v) (fun _ s₂ =>
          wpAny (model prog w) A (isTrue tst env (eval tst env)) (fun ok s₃ => if ok = true then wpAny (model prog w) A (eval elt env) (fun x s₄ =>
              wpAny (model prog w) A (call (.builtin "list.append") [acc, x]) (fun _ s₅ => ∃ m, m < n ∧ I m s₅) (notedBy (model prog w) A env fun e s' => R (.error e) s') s₄) (notedBy (model prog w) A env fun e s' => R (.error e) s') s₃
            else ∃ m, m < n ∧ I m s₃) (notedBy (model prog w) A env fun e s' => R (.error e) s') s₂)
          (notedBy (model prog w) A env fun e s' => R (.error e) s') s₁') (notedBy (model prog w) A env fun e s' => R (.error e) s') s₁) (notedBy (model prog w) A env fun e s' => R (.error e) s') s)
    (n : Nat) (h : I n s) :
    codeAny (model prog w) A (.compLoop (.ListComp elt [⟨target, iter, [tst], 0⟩] scope pos) 0 it acc env) R s := by
  refine codeAny_loop rfl I (fun n s hI => ?_) n h
  show wpAny _ A ((compTurn (.ListComp elt [⟨target, iter, [tst], 0⟩] scope pos) 0 it acc env).onRaise (fun x => do noteFrame x env; theTreesLotGoes x)) _ _ s
  refine wpAny_noted ?_
  rw [compTurn_list]
  refine wpAny_bind (wpAny_standAt (wpAny_bind (wpAny_mono (turn n s hI) (fun r s₁ h₁ => ?_) fun _ _ h' => h')))
  cases r with
  | none => exact wpAny_pure h₁
  | some v =>
    refine wpAny_bind (wpAny_mono h₁ (fun _ s₁' h₁' => ?_) fun _ _ h' => h')
    refine wpAny_bind (wpAny_mono h₁' (fun _ s₂ h₂ => wpAny_bind (wpAny_tests_one (wpAny_mono h₂ (fun ok s₃ h₃ => ?_) fun _ _ h' => h'))) fun _ _ h' => h')
    cases ok with
    | false => exact wpAny_pure ⟨rfl, h₃⟩
    | true => exact wpAny_bind (wpAny_bind (wpAny_mono h₃ (fun x s₄ h₄ => wpAny_bind (wpAny_mono h₄ (fun _ s₅ h₅ => wpAny_pure (wpAny_pure ⟨rfl, h₅⟩)) fun _ _ h' => h')) fun _ _ h' => h'))


def CompIfR (J : It) (k : Nat) (g : TG) (tt : TT) (te : TE) (fs : St) (Q : VK) (H1 : Hp) : Prop := ∃ (n : Nat) (W : Nat → List V → St → Hp → Prop), W 0 [] (List.replicate k none ++ fs) H1 ∧
  ∀ i ys σ' H', W i ys σ' H' → ys.length < sizeLine ∧ ((J.stop i H' ∧ ∀ p, H' p = none → Q (.ref p) (upd H' p (.lst ys))) ∨
    (J.go i H' ∧ i < n ∧ ∀ x H'', J.yld i H' x H'' → g x σ' H'' fun σ2 H2 => tt σ2 H2 fun b H3 => if b = true then te σ2 H3 (fun y H4 => W (i + 1) (ys ++ [y]) σ2 H4) else W (i + 1) ys σ2 H3))
def tCompIf (wi : TI) (k : Nat) (g : TG) (tt : TT) (te : TE) (is : List Nat) : TE := fun σ H Q => wi σ H fun J H1 => CompIfR J k g tt te (inS σ is) Q H1
theorem pe_compIf {elt tg iter tst : Expr} {pos : Pos} {wi : TI} {g : TG} {te : TE} {tt : TT} (hc : X.calm = true) (S : CompSc X scope xs ys is) (hi : PI X tg iter wi)
    (hg : ∀ fp s1 H1 C, PG (compCx X (xs ++ ys) scope (clOf X.env ys) fp s1 H1 C) tg g) (ht : ∀ fp s1 H1 C, PT (compCx X (xs ++ ys) scope (clOf X.env ys) fp s1 H1 C) tst tt) (he : ∀ fp s1 H1 C, PE (compCx X (xs ++ ys) scope (clOf X.env ys) fp s1 H1 C) elt te)
    (hs : ∀ x, foldedSetIterable iter X.env x = pure x := by intro _; rfl) :
    PE X (.ListComp elt [⟨tg, iter, [tst], 0⟩] scope pos) (tCompIf wi xs.length g tt te is) := by
  intro pins s σ H Q I h
  rw [eval_ListComp]
  have hnames : ∀ x ∈ scope.names, x.2 = .local → scope.names.lookup x.1 = some .local := fun x hx hl => by
    have q := List.all_eq_true.mp S.names x hx
    rw [Bool.or_eq_true] at q
    rcases q with q | q
    · exact absurd hl (of_decide_eq_true q)
    · exact of_decide_eq_true q
  have hcell : ∀ x ∈ scope.names, x.2 ≠ .cell := fun x hx => by
    have q := List.all_eq_true.mp S.cov x hx
    rw [Bool.and_eq_true] at q
    exact of_decide_eq_true q.1
  refine wpAny_comprehension_free (use := none) (g := ⟨tg, iter, [tst], 0⟩) (gs := []) rfl hs S.clos S.kind hnames (thn (hi pins s σ H _ I h) fun xv s0 h0 => thn h0 fun itv s1 h1 => ?_)
  obtain ⟨it, fp, tn, J, H1, rfl, I1, T, st1, f1, n, W, w0, turn⟩ := h1
  refine wpAny_newObj_type (wpAny_newFunctionEnv hcell (by intro y hy; simp at hy) (fun h₁ hns₁ hsb₁ => ?_) S.kind)
  dsimp only at hns₁ hsb₁ ⊢
  generalize hH2 : s1.heap.push { cls := .type "list", dict := none, data := .seq ([] : List Value).toArray } = G2 at hns₁ hsb₁ ⊢
  have hCs : G2.objs.size = s1.heap.objs.size + 1 := by rw [← hH2, Heap.size_push]
  have hCle : s1.heap.objs.size ≤ G2.objs.size := by rw [hCs]; exact Nat.le_succ _
  have hDC : s1.heap.objs.size ≠ G2.objs.size := by rw [hCs]; exact Nat.ne_of_lt (Nat.lt_succ_self _)
  have old : ∀ b o, s1.heap.get? b = some o → h₁.get? b = some o := fun b o e => hsb₁.extBut b o (Nat.ne_of_lt (Nat.lt_of_lt_of_le (Heap.lt_size e) hCle)) (Heap.get?_push_of_some _ (hH2 ▸ Heap.get?_push_of_some _ e))
  have hacc : h₁.get? s1.heap.objs.size = some (lobj [] 0) := hsb₁.extBut _ _ hDC (Heap.get?_push_of_some _ (hH2 ▸ Heap.get?_push_size _ rfl))
  have hfl : ∀ b ∈ fp, b < s1.heap.objs.size := fun b hb => by
    obtain ⟨o, e, _⟩ := T.obj _ _ st1 b hb
    exact Heap.lt_size e
  -- the block's context
  generalize hY : compCx X (xs ++ ys) scope (clOf X.env ys) fp s1 H1 G2.objs.size = Y
  have okY : Y.Ok := by rw [← hY]; exact compCx_ok I1 hc S hCle f1 hfl
  have hDf : ∀ b ∈ fp, s1.heap.objs.size ≠ b := fun b hb => Ne.symm (Nat.ne_of_lt (hfl b hb))
  have fsub : ∀ b, b ∈ Y.fs → b = X.env.locals ∨ b ∈ X.fs := fun b hb => by
    rw [← hY] at hb
    exact List.mem_cons.mp (I1.stkSub b hb)
  have fslt : ∀ b ∈ Y.fs, b < s1.heap.objs.size := fun b hb => by
    rw [← hY] at hb
    obtain ⟨_, o, ho, _⟩ := I1.stack.mem hb
    exact Heap.lt_size ho
  have hDfs : s1.heap.objs.size ∉ Y.fs := fun z => Nat.lt_irrefl _ (fslt _ z)
  have hYl : Y.env.locals = G2.objs.size := by rw [← hY]; rfl
  have hYc : ∀ x c, Y.env.cells.lookup x = some c → X.env.cells.lookup x = some c := fun x c e => by
    rw [← hY] at e
    exact clOf_lookup S.cells x c e
  have clt : ∀ x c, Y.env.cells.lookup x = some c → c < s1.heap.objs.size := fun x c e => by
    obtain ⟨v, q⟩ := I1.cell x c (hYc x c e)
    exact q.lt
  have hYpn : Y.pn = [] := by rw [← hY]; rfl
  have hYex : Y.ex = fp := by rw [← hY]; rfl
  have hYs : Y.s₀ = s1 := by rw [← hY]; rfl
  have hYH : Y.H₀ = H1 := by rw [← hY]; rfl
  have hYp : Y.prog = X.prog := by rw [← hY]; rfl
  have hYw : Y.w = X.w := by rw [← hY]; rfl
  have hYK : Y.K = X.K := by rw [← hY]; rfl
  have hYA : Y.A = X.A := by rw [← hY]; rfl
  have hYe : compEnvC scope (clOf X.env ys) G2.objs.size X.env = Y.env := by rw [← hY]; rfl
  have hYca : Y.calm = true := by rw [← hY]; rfl
  have hYxe : Y.xe = fun _ _ => False := by rw [← hY]; rfl
  have hYstk : Y.fs = frs X.stack := by rw [← hY]; rfl
  -- pins of the list that is made
  have pinD : ∀ {H' : Hp} {s' : Shared} {its : List Value} {k : Nat}, s'.heap.get? s1.heap.objs.size = some (lobj its k) → H' s1.heap.objs.size = none → ∀ p ∈ [(s1.heap.objs.size, lobj its k)], s'.heap.get? p.1 = some p.2 ∧ H' p.1 = none ∧ p.1 ≠ Y.env.locals ∧ p.1 ∉ Y.fs ∧ ∀ v, p.2.data ≠ .cell v :=
    fun {H' s' its k} e hn p hp => by
      obtain rfl := List.mem_singleton.mp hp
      exact ⟨e, hn, by rw [hYl]; exact hDC, hDfs, fun v => lobj_cell its k v⟩
  have fpY : ∀ {H' : Hp} {its : List Value} {k : Nat}, (∀ b ∈ fp, H' b = none) → ∀ b ∈ fp, FpOk Y [(s1.heap.objs.size, lobj its k)] H' b := fun {H' its k} hn b hb =>
    ⟨hn b hb, by rw [hYl]; exact Nat.ne_of_lt (Nat.lt_of_lt_of_le (hfl b hb) hCle), fun z => (fsub b z).elim (f1 b hb).2.1 (f1 b hb).2.2.1, .inl (by rw [hYex]; exact hb),
      fun x c e => (f1 b hb).2.2.2.2.1 x c (hYc x c e), fun p hp => by
        rw [hYpn, List.nil_append] at hp
        obtain rfl := List.mem_singleton.mp hp
        exact hDf b hb⟩
  have hDnew : H1 s1.heap.objs.size = none := I1.hok.fresh (Nat.le_refl _)
  have I2 : ∀ tk, Inv Y [(s1.heap.objs.size, lobj [] 0)] (List.replicate xs.length none ++ inS σ is) H1 { s1 with heap := h₁, toks := tk } := fun tk => by
    refine ⟨okY, by rw [hYs], I1.bare, by rw [hYs, hYH]; exact Un.kept old, ⟨_, by rw [hYl]; exact hns₁, fun i x v e1 e2 e3 => ?_⟩, fun x c e => ?_, ?_, fun x c e => I1.freeC x c (hYc x c e), fun p hp => ?_, by rw [hYp, hYw]; exact I1.hok.kept old, ?_⟩
    · -- a free name
      have hNY : Y.N = xs ++ ys := by rw [← hY]; rfl
      rw [hNY] at e1
      by_cases hlt : i < xs.length
      · rw [List.getElem?_append_left (by rw [List.length_replicate]; exact hlt), List.getElem?_replicate, if_pos hlt] at e2
        cases e2
      · have hge : xs.length ≤ i := Nat.not_lt.mp hlt
        rw [List.getElem?_append_right (by rw [List.length_replicate]; exact hge), List.length_replicate] at e2
        rw [List.getElem?_append_right hge] at e1
        obtain ⟨i0, h0, h1⟩ := inS_get S.slots _ x v e1 e2
        have hm : x ∈ ys := List.mem_of_getElem? e1
        have kx : X.env.kindOf x = some .cell := of_decide_eq_true (List.all_eq_true.mp S.kX x hm)
        have ky : (relabel scope X.env).names.lookup x = some .cell := of_decide_eq_true (List.all_eq_true.mp S.kY x hm)
        obtain ⟨m, _, hl⟩ := I1.loc
        obtain ⟨u, ru, lk⟩ := hl i0 x v h0 h1 (.inr (.inl kx))
        refine ⟨u, ru, .inr ⟨.inl (by rw [← hY]; exact ky), ?_⟩⟩
        rcases lk with ⟨z, _⟩ | ⟨_, c, hc1, hc2⟩
        · rw [kx] at z; cases z
        · obtain ⟨c', hc'⟩ := clOf_has (env := X.env) hm
          have hc'' := clOf_lookup S.cells x c' hc'
          rw [hc1] at hc''
          cases hc''
          refine ⟨c, by rw [← hY]; exact hc', ?_⟩
          obtain ⟨o, ho, hd⟩ := hc2
          exact ⟨o, old _ _ ho, hd⟩
    · obtain ⟨v, o, ho, hd⟩ := I1.cell x c (hYc x c e)
      exact ⟨v, o, old _ _ ho, hd⟩
    · rw [hYl]; exact I1.hok.fresh hCle
    · rw [hYpn, List.nil_append] at hp
      exact pinD (s' := { s1 with heap := h₁, toks := tk }) hacc hDnew p hp
    · have hNY : Y.N = xs ++ ys := by rw [← hY]; rfl
      have hl := congrArg List.length S.slots
      rw [List.length_map, List.length_map] at hl
      rw [hNY, List.length_append, List.length_append, List.length_replicate]
      unfold inS
      rw [List.length_map, hl]
  have loop : ∀ s₃ : Shared, s₃ = { s1 with heap := h₁, toks := s1.toks + ([] : List (Str × Value)).length } →
      codeAny (model X.prog X.w) X.A (.compLoop (.ListComp elt [⟨tg, iter, [tst], 0⟩] scope pos) 0 (.ref it) (.ref s1.heap.objs.size) (compEnvC scope (clOf X.env ys) G2.objs.size X.env))
        (compPost (model X.prog X.w) X.A X.xe none (EP X pins σ Q) (.ref s1.heap.objs.size) G2.objs.size) s₃ := by
    rintro s₃ rfl
    rw [hYe]
    refine compLoop_if (fun k s' => ∃ i made σ' H' its c, Inv Y [(s1.heap.objs.size, lobj its c)] σ' H' s' ∧ tn i s'.heap ∧ (∀ b ∈ fp, H' b = none) ∧ Vals made its ∧ k = n - i ∧ W i made σ' H') ?_ n
      ⟨0, [], _, H1, [], 0, I2 _, T.keep _ _ _ st1 fun b _ o e => old b o e, fun b hb => (f1 b hb).1, .nil, rfl, w0⟩
    rintro k s' ⟨i, made, σ', H', its, c, I3, st3, fr3, rv, rfl, w3⟩
    obtain ⟨hz, tw⟩ := turn i made σ' H' w3
    have pD := I3.pin (s1.heap.objs.size, lobj its c) (by rw [hYpn]; exact List.mem_singleton.mpr rfl)
    rcases tw with ⟨stop, hq⟩ | ⟨go, hin, step⟩
    · rw [← hYA]
      refine thn (T.done Y hYp hYw hYK hYca i _ s' σ' H' _ I3 (fpY fr3) st3 stop) fun r s4 ⟨hr, I4⟩ => ?_
      subst hr
      obtain ⟨m, hn4, _⟩ := I4.loc
      rw [hYl] at hn4
      refine ⟨m, hn4, fun h' hs' => ?_⟩
      have pD4 := I4.pin (s1.heap.objs.size, lobj its c) (by rw [hYpn]; exact List.mem_singleton.mpr rfl)
      have kp : ∀ b o, b ≠ G2.objs.size → s4.heap.get? b = some o → h'.get? b = some o := fun b o hb e => hs'.extBut b o hb e
      have lt1 : ∀ {b o}, s1.heap.get? b = some o → b ≠ G2.objs.size := fun {b o} e => Nat.ne_of_lt (Nat.lt_of_lt_of_le (Heap.lt_size e) hCle)
      have hbase := I4.base
      rw [hYs, hYH, hYex, hYstk] at hbase
      have ltH : ∀ {b o}, H1 b = some o → b ≠ s1.heap.objs.size := fun {b o} e => Nat.ne_of_lt (I1.hok.lt e)
      have u : Un (frs X.stack) fp H1 (upd H' s1.heap.objs.size (.lst made)) s1.heap h' := by
        refine ⟨fun b o e n hb hx => kp b o (lt1 e) (hbase.keep b o e n hb hx), fun b o e n hb hx => ?_, fun b o e n hx => ?_, fun b o e hx => ?_, fun b xs e => ?_, fun b o u e => ?_, fun b ps e => ?_⟩
        · obtain ⟨sl, q⟩ := hbase.slot b o e n hb hx
          exact ⟨sl, kp b _ (lt1 e) q⟩
        · rw [upd_ne (Nat.ne_of_lt (Heap.lt_size e))]; exact hbase.free b o e n hx
        · obtain ⟨o', q⟩ := hbase.there b o e hx
          exact ⟨o', kp b _ (lt1 e) q⟩
        · rw [upd_ne (ltH e)]; exact hbase.tups b xs e
        · rw [upd_ne (ltH e)]; exact hbase.frzs b o u e
        · obtain ⟨more, q⟩ := hbase.tbls b ps e
          exact ⟨more, by rw [upd_ne (ltH e)]; exact q⟩
      have hCn : H' G2.objs.size = none := by rw [← hYl]; exact I4.free
      have hok' : HOk X.prog X.w (upd H' s1.heap.objs.size (.lst made)) h' := fun b o e => by
        by_cases hb : b = s1.heap.objs.size
        · subst hb
          rw [upd_same] at e
          cases e
          exact ⟨Nat.le_of_lt hz, its, c, rv, kp _ _ hDC pD4.1⟩
        · rw [upd_ne hb] at e
          have x4 := I4.hok b o e
          rw [hYp, hYw] at x4
          have neC : ∀ b' u, H' b' = some u → b' ≠ G2.objs.size := fun b' u q z => by rw [z, hCn] at q; cases q
          have neD : ∀ b' u, H' b' = some u → b' ≠ s1.heap.objs.size := fun b' u q z => by rw [z, pD4.2.1] at q; cases q
          refine x4.stay (fun b' u hb' q => kp b' u ?_ q) (fun b' q => ?_) fun b' xs q => ?_
          · rcases hb' with z | z
            · rw [z]; exact neC b o e
            · exact neC b' _ z
          · rw [upd_ne (neD b' _ q)]; exact q
          · rw [upd_ne (neD b' _ q)]; exact q
      have I5 : Inv X pins σ (upd H' s1.heap.objs.size (.lst made)) { s4 with heap := h' } := I1.call' (by show s4.os = s1.os; rw [I4.os, hYs]) u hok' I4.bare fun b hb => ⟨(f1 b hb).2.2.2.1, (f1 b hb).2.1, (f1 b hb).2.2.2.2.1, (f1 b hb).2.2.2.2.2⟩
      exact ⟨.ref s1.heap.objs.size, _, I5, rfl, hq _ pD4.2.1⟩
    · rw [← hYA]
      refine thn (T.item Y hYp hYw hYK hYca i _ s' σ' H' _ I3 (fpY fr3) st3 go) fun r s4 ⟨u, hr, h4⟩ => ?_
      subst hr
      dsimp only
      refine thn h4 fun _ s5 ⟨x, H5, I5, r5, y5, st5, fr5⟩ => ?_
      have I5' := I5.pinned (fpY fr5) (T.obj _ _ st5)
      have hgY := hg fp s1 H1 G2.objs.size
      have heY := he fp s1 H1 G2.objs.size
      have htY := ht fp s1 H1 G2.objs.size
      rw [hY] at hgY heY htY
      rw [← hYp, ← hYw]
      refine wpAny_mono (hgY _ s5 σ' H5 x u _ I5' r5 (step x H5 y5)) (fun _ s6 ⟨σ6, H6, I6, q6⟩ => ?_) (fun _ _ f => by rw [hYxe] at f; exact f.elim)
      refine wpAny_mono (htY _ s6 σ6 H6 _ I6 q6) (fun okb sT ⟨HT, IT, qT⟩ => ?_) (fun _ _ f => by rw [hYxe] at f; exact f.elim)
      have pDT := IT.pin (s1.heap.objs.size, lobj its c) (List.mem_append_right _ (List.mem_append_left _ (List.mem_singleton.mpr rfl)))
      have stT : tn (i + 1) sT.heap := T.keep _ _ _ st5 fun b hb o e => (IT.pin (b, o) (List.mem_append_right _ (List.mem_append_right _ (mem_pinsAt hb e)))).1
      cases okb with
      | false =>
        refine ⟨n - (i + 1), by omega, i + 1, made, σ6, HT, its, c, IT.unpinned, stT, fun b hb => ?_, rv, rfl, qT⟩
        obtain ⟨o, e, d⟩ := T.obj _ _ st5 b hb
        exact (IT.pin (b, o) (List.mem_append_right _ (List.mem_append_right _ (mem_pinsAt hb e)))).2.1
      | true =>
      refine wpAny_mono (heY _ sT σ6 HT _ IT qT) (fun v s7 ⟨y, H7, I7, r7, q7⟩ => ?_) (fun _ _ f => by rw [hYxe] at f; exact f.elim)
      have pD7 := I7.pin (s1.heap.objs.size, lobj its c) (List.mem_append_right _ (List.mem_append_left _ (List.mem_singleton.mpr rfl)))
      have e7 : s7.heap.get? s1.heap.objs.size = some { cls := .type "list", data := .seq its.toArray c } := pD7.1
      refine append_at (hsz := by rw [List.size_toArray, ← rv.length]; exact Nat.le_of_lt hz) e7 fun h' hs' hD' => ?_
      have I8 : Inv Y [] σ6 H7 s7 := I7.pins_of fun _ z => nomatch z
      have I9 : Inv Y [] σ6 H7 { s7 with heap := h' } := I8.turned (t' := s7.toks) (it := s1.heap.objs.size) (fun b o hb e => hs'.extBut b o hb e) pD7.2.1 (by rw [hYl]; exact hDC) (.inr (by rw [hYs]; exact Nat.le_refl _))
        (fun x c' e => Nat.ne_of_lt (clt x c' e)) (fun p hp => by rw [hYpn] at hp; cases hp)
      have eD : h'.get? s1.heap.objs.size = some (lobj (its ++ [v]) (c + 1)) := by rw [hD', List.push_toArray]
      have st7 : tn (i + 1) s7.heap := T.keep _ _ _ st5 fun b hb o e => (I7.pin (b, o) (List.mem_append_right _ (List.mem_append_right _ (mem_pinsAt hb e)))).1
      refine ⟨n - (i + 1), by omega, i + 1, made ++ [y], σ6, H7, its ++ [v], c + 1, I9.pins_of (pinD (s' := { s7 with heap := h' }) eD pD7.2.1), T.keep _ _ _ st7 fun b hb o e => hs'.extBut b o (Ne.symm (hDf b hb)) e, fun b hb => ?_, rv.append (.cons r7 .nil), rfl, q7⟩
      obtain ⟨o, e, d⟩ := T.obj _ _ st5 b hb
      exact (I7.pin (b, o) (List.mem_append_right _ (List.mem_append_right _ (mem_pinsAt hb e)))).2.1
  exact codeAny_compStart_list (loop _ rfl) (T.self _ 0 _ _ _ (T.keep _ _ _ st1 fun b _ o e => old b o e) (loop _ rfl))
end
end L2


set_option maxHeartbeats 4000000
namespace Cw
open PySem L2
theorem paired_append {α β : Type} {R : α → β → Prop} : ∀ {xs : List α} {ys : List β} {xs' : List α} {ys' : List β}, Paired R xs ys → Paired R xs' ys' → Paired R (xs ++ xs') (ys ++ ys')
  | _, _, _, _, .nil, h => h
  | _, _, _, _, .cons r t, h => .cons r (paired_append t h)
end Cw
namespace K03
open PySem L2 Cw
abbrev lSpots : Stmt := top 29
section
variable {P : Program} {w : World} {K : PySem.W.Frag} {mg : Str → Option Value} {base : Heap}
abbrev NLO : List Str := ["_law_floor_here", "_law_made", "_law_row", "_law_signs"]
theorem scLO : FnScope NLO ["_law_floor_here"] (defScope lSpots) := ⟨rfl, rfl, rfl, by decide +kernel, rfl, by decide +kernel, by decide +kernel⟩
theorem ok_lspots {f : Addr} {fd : FuncData} (F : Fun K "_law_spots" "_law_spots" lSpots f fd) (T : Tx mg) (hEn : mg "enumerate" = none) : FnOk P w K mg base CX0 1 f fd ["_law_floor_here"] spOpens := by
  refine F.ok scLO (fun vs H Q E h => ?_) (fun cdv A outer s H vs Q E hr h => ?_)
  · obtain ⟨a, rows, c, rfl, _⟩ := h
    rfl
  · obtain ⟨a, rows, c, rfl, hf, q⟩ := h
    refine ⟨_, pss_cons (ps_set (i := 1) scLO.nd rfl (Or.inl rfl) (pe_lst pa_nil))
      (pss_cons (ps_for PassesOwn.never rfl (pi_enumT (by rfl) hEn (pa_cons (pv 0) pa_nil)) (pg_tup rfl (pgs_cons (pg_name (i := 2) scLO.nd rfl (Or.inr rfl)) (pgs_cons (pg_name (i := 3) scLO.nd rfl (Or.inl rfl)) pgs_nil)))
        (pss_one (ps_expr (pe_bm PySem.F.plainAttrs_list PySem.F.slot_list_extend PySem.F.type_list_extend mt_extend (pv 1)
          (pa_cons (pe_compIf (g := gTup K 2 (gCons (gName 0) (gCons (gName 1) gNil))) (xs := ["_law_column", "_law_sign"]) (ys := ["_law_row"]) (is := [2]) rfl ⟨rfl, rfl, rfl, by decide +kernel, by decide +kernel, rfl, rfl, rfl⟩ (pi_enumS (by rfl) hEn (pa_cons (pv 3) pa_nil))
            (fun _ _ _ _ => pg_tup (n := 2) rfl (pgs_cons (pg_name (i := 0) (show List.Nodup (["_law_column", "_law_sign", "_law_row"] : List Str) by decide +kernel) rfl (Or.inl rfl) (.inr rfl)) (pgs_cons (pg_name (i := 1) (show List.Nodup (["_law_column", "_law_sign", "_law_row"] : List Str) by decide +kernel) rfl (Or.inl rfl) (.inr rfl)) pgs_nil)))
            (fun _ _ _ _ => pt_cmpR op_ne (pv 1) pe_str (nomark _)) (fun _ _ _ _ => pe_tup (pa_cons (pv 2) (pa_cons (pv 0) pa_nil)))) pa_nil)))))
      (pss_one (ps_ret (pv 1)))), ?_⟩
    have hrm := hf.ok.rm
    have hcm := hf.ok.cm
    refine ⟨(by decide), fun pb hb => ?_⟩
    have s0 := same_upd (o := .lst []) hb
    have keep : ∀ {G : Hp} {o : HO}, Same H G → Same H (upd G pb o) := fun {G o} s' b u e => by rw [upd_ne (ne_of_none e hb)]; exact s' b u e
    refine ⟨_, rfl, a, _, rfl, SqT.of (s0 _ _ hf.at_), for_enumT (K := K) (a := a) (xs := rows.map V.str) (fun i σ G => ∃ (vs : List V) (v2 v3 : Option V), σ = [some (.ref a), some (.ref pb), v2, v3] ∧ Same H G ∧ G pb = some (.lst vs) ∧ IsSps G vs (openQ rows c i))
      ⟨[], none, none, rfl, s0, upd_same, .nil⟩ (fun i σ G _ ⟨_, _, _, _, sG, _⟩ => SqT.of (sG _ _ hf.at_)) ?_ ?_⟩
    · rintro i x σ G pp hx ⟨vs, v2, v3, rfl, sG, hG, hvs⟩ hpp
      have hil := (List.getElem?_eq_some_iff.mp hx).1
      rw [List.length_map] at hil
      obtain ⟨z, hz, rfl⟩ : ∃ z, rows[i]? = some z ∧ V.str z = x := by
        rw [List.getElem?_map, List.getElem?_eq_getElem hil] at hx
        exact ⟨rows[i], List.getElem?_eq_getElem hil, Option.some.inj hx⟩
      have hzr := hf.ok.row z (List.mem_of_getElem? hz)
      have hzs : z.cps.size = c := by have := hzr.1; simpa using this
      have s1 := same_upd (o := .tup [.int (i : Nat), .str z]) hpp
      refine ⟨pp, _, rfl, SqT.of upd_same, rfl, _, _, rfl, _, _, rfl, rfl, ?_⟩
      refine ⟨_, rfl, .inl ⟨rfl, _, SqL.of (s1 _ _ hG)⟩, _, rfl, z, rfl, ?_⟩
      have hcode : ∀ {j cc : Nat}, z.cps[j]? = some cc → openB rows (i : Int) (j : Int) = (cc != 35) := fun {j cc} hcc => by
        unfold openB Cw.codeAt
        rw [if_pos ⟨by omega, by omega⟩]
        simp only [Int.toNat_natCast, hz]
        have : z.cps.toList[j]? = some cc := by rw [Array.getElem?_toList]; exact hcc
        simp only [Option.bind_some, this]
      refine ⟨z.cps.size, fun j ys σ' G' => j ≤ z.cps.size ∧ (∃ v0 v1, σ' = [v0, v1, some (.int (i : Nat))]) ∧ Same G G' ∧ IsSps G' ys (openRowQ rows i j), ⟨Nat.zero_le _, ⟨none, none, rfl⟩, s1, .nil⟩, ?_⟩
      rintro j ys σ' G' ⟨hj, ⟨v0, v1, rfl⟩, sG', hys⟩
      have hl1 := openQ_len rows c i
      have hm : c * i ≤ 12 * 12 := Nat.mul_le_mul hcm (by omega)
      have hl2 := openRowQ_len rows i j
      have hvl := hvs.length
      have hyl := hys.length
      have big : 1000 ≤ sizeLine := by decide
      refine ⟨by omega, ?_⟩
      by_cases hlt : j < z.cps.size
      · refine .inr ⟨hlt, hlt, fun v H' y => ?_⟩
        obtain ⟨p2, cc, rfl, hp2, rfl, hcc⟩ := y
        have s2 := same_upd (o := .tup [.int (j : Nat), .str ⟨#[cc]⟩]) hp2
        have e1 := openRowQ_succ rows i j
        refine ⟨p2, _, rfl, SqT.of upd_same, rfl, _, _, rfl, _, _, rfl, rfl, ?_⟩
        refine ⟨_, rfl, rfl, _, rfl, ?_⟩
        rw [wall_ne, ← hcode hcc]
        cases ho : openB rows (i : Int) (j : Int) with
        | false =>
          rw [ho, if_neg Bool.false_ne_true, List.append_nil] at e1
          refine iteF ⟨hlt, ⟨_, _, rfl⟩, sG'.trans s2, ?_⟩
          rw [e1]
          exact hys.same s2
        | true =>
          rw [ho, if_pos rfl] at e1
          refine iteT ⟨_, rfl, _, rfl, (show 2 ≤ sizeLine by decide), fun n3 g3 => ?_⟩
          have s3 := s2.trans (same_upd (o := .tup [.int (i : Nat), .int (j : Nat)]) g3)
          refine ⟨hlt, ⟨_, _, rfl⟩, sG'.trans s3, ?_⟩
          rw [e1]
          exact (hys.same s3).snoc ⟨n3, rfl, upd_same⟩
      · have e : j = z.cps.size := by omega
        subst e
        refine .inl ⟨rfl, fun p hp => ?_⟩
        have s2 := sG'.trans (same_upd (o := .lst ys) hp)
        refine ⟨pb, p, vs, ys, rfl, rfl, s2 _ _ hG, upd_same, by omega, ?_⟩
        refine ⟨vs ++ ys, _, _, rfl, keep (sG.trans s2), upd_same, ?_⟩
        rw [hzs] at hys
        exact IsSps.updL (s2 _ _ hG) (paired_append (hvs.same s2) (hys.same (same_upd hp)))
    · rintro σ G ⟨vs, v2, v3, rfl, sG, hG, hvs⟩
      rw [List.length_map] at hvs
      exact ⟨_, rfl, q pb vs G hb sG hG hvs⟩
end
end K03


set_option maxHeartbeats 4000000
namespace K03
open PySem L2 Cw
abbrev lCell : Stmt := top 25
abbrev lPick : Stmt := top 26
abbrev lFloor : Stmt := top 27
abbrev lWalker : Stmt := top 28
structure TxD (mg : Str → Option Value) : Prop where
  str : mg "str" = none
  tuple : mg "tuple" = none
  len : mg "len" = none
  range : mg "range" = none
def spCell (K : PySem.W.Frag) : Sp := fun vs H Q _ => ∃ (a : Addr) (ns : List Int) (k : Int), vs = [.ref a, .int k] ∧ SqL K H a (ns.map V.int) ∧ 0 ≤ k ∧ k < 1000000 ∧ ∀ (v : Int) H', Same H H' → Q (.int v) H'
def spPick (K : PySem.W.Frag) : Sp := fun vs H Q _ => ∃ (a : Addr) (ns : List Int) (k m : Int), vs = [.ref a, .int k, .int m] ∧ SqL K H a (ns.map V.int) ∧ 0 ≤ k ∧ k < 1000000 ∧ 0 < m ∧ ∀ (v : Int) H', 0 ≤ v → v < m → Same H H' → Q (.int v) H'
def spFl (K : PySem.W.Frag) : Sp := fun vs H Q _ => ∃ (a : Addr) (ns : List Int) (at_ : Int) (m : Nat), vs = [.ref a, .int at_, .int m] ∧ SqL K H a (ns.map V.int) ∧ 0 ≤ at_ ∧ at_ < 1000 ∧ 1 ≤ m ∧ m ≤ 12 ∧
  ∀ p rows c H', FlOk rows c m → Same H H' → H' p = some (.tup (rows.map V.str)) → Q (.ref p) H'
def spWk (K : PySem.W.Frag) : Sp := fun vs H Q _ => ∃ (a : Addr) (ns : List Int) (at_ : Int), vs = [.ref a, .int at_] ∧ SqL K H a (ns.map V.int) ∧ 0 ≤ at_ ∧ at_ < 1000 ∧
  ∀ p b (c u : Int) H', 0 ≤ c → c ≤ 9 → 0 ≤ u → u ≤ 3 → Same H H' → H' p = some (.tup [.bl b, .int c, .int u]) → Q (.ref p) H'
theorem atI_int {xs : List V} {i : Int} {v : V} (h0 : 0 ≤ i) (h : xs[i.toNat]? = some v) : atI xs i = some v := by
  have := atI_nat (j := i.toNat) h
  rw [Int.toNat_of_nonneg h0] at this
  exact this
section
variable {P : Program} {w : World} {K : PySem.W.Frag} {mg : Str → Option Value} {base : Heap}
theorem scDC : FnScope ["_law_script", "_law_k"] ["_law_script", "_law_k"] (defScope lCell) := ⟨rfl, rfl, rfl, by decide +kernel, rfl, by decide +kernel, by decide +kernel⟩
theorem ok_cell {f : Addr} {fd : FuncData} (F : Fun K "_law_cell" "_law_cell" lCell f fd) (T : TxD mg) : FnOk P w K mg base CX0 1 f fd ["_law_script", "_law_k"] (spCell K) := by
  refine F.ok scDC (fun vs H Q E h => ?_) (fun cdv A outer s H vs Q E hr h => ?_)
  · obtain ⟨a, ns, k, rfl, _⟩ := h
    rfl
  · obtain ⟨a, ns, k, rfl, hS, h0, hk, q⟩ := h
    refine ⟨_, pss_cons (ps_if (pt_cmpR op_lt (pv 1) (pe_callB call_len_seq (by rfl) T.len PySem.boot_len (pa_cons (pv 0) pa_nil)) (nomark _)) (pss_one (ps_ret (pe_ix ix_list (pv 0) (pv 1) (fun _ _ => rfl)))) pss_nil)
      (pss_cons (ps_if (pt_cmpR (op_eq_nil hr.units0) (pv 0) (pe_lst pa_nil) (nomark _)) (pss_one (ps_ret pe_int)) pss_nil)
      (pss_one (ps_ret (pe_op op_add (pe_op op_mul (pe_ix ix_list (pv 0) (pe_op op_mod (pv 1) (pe_callB call_len_seq (by rfl) T.len PySem.boot_len (pa_cons (pv 0) pa_nil))) (fun _ _ => rfl)) pe_int) (pv 1))))), ?_⟩
    refine ⟨_, rfl, _, rfl, a, _, rfl, .inl hS, _, _, rfl, rfl, _, rfl, ?_⟩
    rw [List.length_map]
    refine ite2 (fun h1 => ?_) (fun h1 => ?_)
    · have g : k < (ns.length : Int) := of_decide_eq_true h1
      have hi : k.toNat < ns.length := by omega
      exact ⟨_, rfl, _, rfl, a, _, k, .int ns[k.toNat], rfl, rfl, hS, atI_int h0 (by rw [List.getElem?_map, List.getElem?_eq_getElem hi]; rfl), q _ H (Same.refl H)⟩
    · refine ⟨_, rfl, (by decide), fun p hp => ⟨a, p, _, rfl, rfl, (same_upd hp).seq hS, SqL.of upd_same, _, rfl, ?_⟩⟩
      cases ns with
      | nil => exact iteT (q _ _ (same_upd hp))
      | cons n0 nr =>
        refine iteF ?_
        have hlen : (0 : Int) < (((n0 :: nr).map V.int).length : Int) := by rw [List.length_map, List.length_cons]; omega
        have b1 : 0 ≤ k % (((n0 :: nr).map V.int).length : Int) := Int.emod_nonneg _ (by omega)
        have b2 : k % (((n0 :: nr).map V.int).length : Int) < (((n0 :: nr).map V.int).length : Int) := Int.emod_lt_of_pos _ hlen
        have hi : (k % (((n0 :: nr).map V.int).length : Int)).toNat < (n0 :: nr).length := by rw [List.length_map] at b2 ⊢; rw [List.length_map] at b1; omega
        exact ⟨_, rfl, _, rfl, _, rfl, a, _, rfl, .inl ((same_upd hp).seq hS), _, _, rfl, rfl, hlen, a, _, _, .int (n0 :: nr)[(k % (((n0 :: nr).map V.int).length : Int)).toNat], rfl, rfl, (same_upd hp).seq hS,
          atI_int b1 (by rw [List.getElem?_map, List.getElem?_eq_getElem hi]; rfl), _, _, rfl, rfl, .inr ⟨by decide, by decide⟩, _, rfl, _, _, rfl, rfl, q _ _ (same_upd hp)⟩
theorem scDP : FnScope ["_law_script", "_law_k", "_law_many", "_law_drawn"] ["_law_script", "_law_k", "_law_many"] (defScope lPick) := ⟨rfl, rfl, rfl, by decide +kernel, rfl, by decide +kernel, by decide +kernel⟩
theorem ok_pick {f fC : Addr} {fd fdC : FuncData} (F : Fun K "_law_pick" "_law_pick" lPick f fd) (T : TxD mg) (GC : FnOk P w K mg base CX0 1 fC fdC ["_law_script", "_law_k"] (spCell K)) (mC : mg "_law_cell" = some (.ref fC)) (kC : PySem.W.keepIn K (.ref fC) = true)
    (bC : Binds K fdC ["_law_script", "_law_k"] []) : FnOk P w K mg base CX0 2 f fd ["_law_script", "_law_k", "_law_many"] (spPick K) := by
  refine F.ok scDP (fun vs H Q E h => ?_) (fun cdv A outer s H vs Q E hr h => ?_)
  · obtain ⟨a, ns, k, m, rfl, _⟩ := h
    rfl
  · obtain ⟨a, ns, k, m, rfl, hS, h0, hk, hm, q⟩ := h
    refine ⟨_, pss_cons (ps_set (i := 3) scDP.nd rfl (Or.inl rfl) (pe_op op_mod (pe_op op_mul (pe_op op_add (pe_call GC hr rfl mC kC bC .nil pass0 (pa_cons (pv 0) (pa_cons (pv 1) pa_nil))) (pe_op op_mul pe_int (pe_op op_add (pv 1) pe_int))) pe_int) pe_int))
      (pss_one (ps_ret (pe_op op_mod (pe_op op_mod (pe_op op_add (pe_op op_mul (pv 3) (pv 3)) (pe_op op_fdiv (pv 3) pe_int)) pe_int) (pv 2)))), ?_⟩
    refine ⟨_, rfl, _, rfl, a, ns, k, rfl, hS, h0, hk, fun v H1 s1 => ?_⟩
    refine ⟨_, rfl, _, _, rfl, rfl, _, _, rfl, rfl, .inl ⟨by decide, by decide⟩, _, _, rfl, rfl, _, _, rfl, rfl, .inr ⟨by decide, by decide⟩, _, _, rfl, rfl, (show (0 : Int) < 2147483399 by decide), ?_⟩
    have d1 : 0 ≤ (v + 6151 * (k + 1)) * 40692 % 2147483399 := Int.emod_nonneg _ (by decide)
    have d2 : (v + 6151 * (k + 1)) * 40692 % 2147483399 < 2147483399 := Int.emod_lt_of_pos _ (by decide)
    generalize (v + 6151 * (k + 1)) * 40692 % 2147483399 = d at d1 d2 ⊢
    exact ⟨_, rfl, _, rfl, _, _, rfl, rfl, .inl ⟨by omega, by omega⟩, _, rfl, _, _, rfl, rfl, ⟨by decide, by decide⟩, _, _, rfl, rfl, _, _, rfl, rfl, (show (0 : Int) < 2147483629 by decide), _, rfl, _, _, rfl, rfl, hm, q _ _ (Int.emod_nonneg _ (by omega)) (Int.emod_lt_of_pos _ hm) s1⟩
end

theorem digit_at (i : Int) (h0 : 0 ≤ i) (h9 : i ≤ 9) : ((toString i : String) : Str).cps.toList = [48 + i.toNat] ∧ sgn (48 + i.toNat) = true := by
  have h : i = 0 ∨ i = 1 ∨ i = 2 ∨ i = 3 ∨ i = 4 ∨ i = 5 ∨ i = 6 ∨ i = 7 ∨ i = 8 ∨ i = 9 := by omega
  rcases h with rfl | rfl | rfl | rfl | rfl | rfl | rfl | rfl | rfl | rfl
  all_goals exact ⟨by decide +kernel, by decide +kernel⟩
theorem digit_txt (i : Int) (h0 : 0 ≤ i) (h9 : i ≤ 9) : ∃ c, ((toString i : String) : Str).cps.toList = [c] ∧ sgn c = true := ⟨_, digit_at i h0 h9⟩
theorem log2_small (i : Int) (h0 : 0 ≤ i) (h9 : i ≤ 9) : i.natAbs.log2 < 1920 := by
  have h : i = 0 ∨ i = 1 ∨ i = 2 ∨ i = 3 ∨ i = 4 ∨ i = 5 ∨ i = 6 ∨ i = 7 ∨ i = 8 ∨ i = 9 := by omega
  rcases h with rfl | rfl | rfl | rfl | rfl | rfl | rfl | rfl | rfl | rfl
  all_goals decide +kernel
section
variable {P : Program} {w : World} {K : PySem.W.Frag} {mg : Str → Option Value} {base : Heap}
abbrev NDF : List Str := ["_law_script", "_law_at", "_law_most", "_law_rows", "_law_columns", "_law_shuts", "_law_top", "_law_made", "_law_row", "_law_signs", "_law_column", "_law_drawn"]
theorem scDL : FnScope NDF ["_law_script", "_law_at", "_law_most"] (defScope lFloor) := ⟨rfl, rfl, rfl, by decide +kernel, rfl, by decide +kernel, by decide +kernel⟩
theorem four (xs : List V) (x0 x1 x2 x3 : V) (h : xs = [x0, x1, x2, x3]) (v : Int) (h0 : 0 ≤ v) (h1 : v < 4) : ∃ x, atI xs v = some x ∧ (x = x0 ∨ x = x1 ∨ x = x2 ∨ x = x3) := by
  subst h
  have h : v = 0 ∨ v = 1 ∨ v = 2 ∨ v = 3 := by omega
  rcases h with rfl | rfl | rfl | rfl
  · exact ⟨x0, atI_nat (j := 0) rfl, .inl rfl⟩
  · exact ⟨x1, atI_nat (j := 1) rfl, .inr (.inl rfl)⟩
  · exact ⟨x2, atI_nat (j := 2) rfl, .inr (.inr (.inl rfl))⟩
  · exact ⟨x3, atI_nat (j := 3) rfl, .inr (.inr (.inr rfl))⟩
theorem ok_fl {f fP : Addr} {fd fdP : FuncData} (F : Fun K "_law_floor" "_law_floor" lFloor f fd) (T : TxD mg) (GP : FnOk P w K mg base CX0 2 fP fdP ["_law_script", "_law_k", "_law_many"] (spPick K)) (mP : mg "_law_pick" = some (.ref fP))
    (kP : PySem.W.keepIn K (.ref fP) = true) (bP : Binds K fdP ["_law_script", "_law_k", "_law_many"] []) : FnOk P w K mg base CX0 3 f fd ["_law_script", "_law_at", "_law_most"] (spFl K) := by
  refine F.ok scDL (fun vs H Q E h => ?_) (fun cdv A outer s H vs Q E hr h => ?_)
  · obtain ⟨a, ns, at_, m, rfl, _⟩ := h
    rfl
  · obtain ⟨a, ns, at_, m, rfl, hS, a0, a1, m1, m2, q⟩ := h
    refine ⟨_, pss_cons (ps_set (i := 3) scDL.nd rfl (Or.inl rfl) (pe_op op_add pe_int (pe_call GP hr rfl mP kP bP .nil pass0 (pa_cons (pv 0) (pa_cons (pv 1) (pa_cons (pv 2) pa_nil))))))
      (pss_cons (ps_set (i := 4) scDL.nd rfl (Or.inl rfl) (pe_op op_add pe_int (pe_call GP hr rfl mP kP bP .nil pass0 (pa_cons (pv 0) (pa_cons (pe_op op_add (pv 1) pe_int) (pa_cons (pv 2) pa_nil))))))
      (pss_cons (ps_set (i := 5) scDL.nd rfl (Or.inl rfl) (pe_ix ix_list (pe_lst (pa_cons pe_int (pa_cons pe_int (pa_cons pe_int (pa_cons pe_int pa_nil))))) (pe_call GP hr rfl mP kP bP .nil pass0 (pa_cons (pv 0) (pa_cons (pe_op op_add (pv 1) pe_int) (pa_cons pe_int pa_nil)))) (fun _ _ => rfl)))
      (pss_cons (ps_set (i := 6) scDL.nd rfl (Or.inl rfl) (pe_ix ix_list (pe_lst (pa_cons pe_int (pa_cons pe_int (pa_cons pe_int (pa_cons pe_int pa_nil))))) (pe_call GP hr rfl mP kP bP .nil pass0 (pa_cons (pv 0) (pa_cons (pe_op op_add (pv 1) pe_int) (pa_cons pe_int pa_nil)))) (fun _ _ => rfl)))
      (pss_cons (ps_set (i := 7) scDL.nd rfl (Or.inl rfl) (pe_lst pa_nil))
      (pss_cons (ps_for PassesOwn.never rfl (pi_range1 rfl T.range (pa_cons (pv 3) pa_nil)) (pg_name (i := 8) scDL.nd rfl (Or.inl rfl))
        (pss_cons (ps_set (i := 9) scDL.nd rfl (Or.inl rfl) pe_str)
        (pss_cons (ps_for PassesOwn.never rfl (pi_range1 rfl T.range (pa_cons (pv 4) pa_nil)) (pg_name (i := 10) scDL.nd rfl (Or.inl rfl))
          (pss_cons (ps_set (i := 11) scDL.nd rfl (Or.inl rfl) (pe_call GP hr rfl mP kP bP .nil pass0 (pa_cons (pv 0) (pa_cons (pe_op op_add (pe_op op_add (pe_op op_add (pv 1) pe_int) (pe_op op_mul (pv 2) (pv 8))) (pv 10)) (pa_cons (pe_op op_mul pe_int (pv 6)) pa_nil)))))
          (pss_one (ps_set (i := 9) scDL.nd rfl (Or.inl rfl) (pe_op op_add_str (pv 9) (pe_ifExp (pt_cmpR op_lt (pe_op op_mod (pv 11) pe_int) (pv 5) (nomark _)) pe_str
            (pe_callTy call_str_int (by rfl) T.str (by decide +kernel) (pa_cons (pe_op op_fdiv (pv 11) pe_int) pa_nil))))))))
        (pss_one (ps_expr (pe_bm PySem.F.plainAttrs_list PySem.F.slot_list_append PySem.F.type_list_append mt_append (pv 7) (pa_cons (pv 9) pa_nil)))))))
      (pss_one (ps_ret (pe_callTy call_tuple_of (by rfl) T.tuple (by decide +kernel) (pa_cons (pv 7) pa_nil))))))))), ?_⟩
    -- rows, columns
    refine ⟨_, rfl, _, rfl, _, rfl, a, ns, at_, (m : Int), rfl, hS, a0, by omega, by omega, fun v1 H1 p1 q1 s1 => ⟨_, _, rfl, rfl, ?_⟩⟩
    refine ⟨_, rfl, _, rfl, _, _, rfl, rfl, _, rfl, a, ns, at_ + 1, (m : Int), rfl, s1.seq hS, by omega, by omega, by omega, fun v2 H2 p2 q2 s2' => ⟨_, _, rfl, rfl, ?_⟩⟩
    have s2 := s1.trans s2'
    -- shuts
    refine ⟨(by decide), fun l3 hl3 => ⟨_, rfl, _, rfl, _, _, rfl, rfl, a, ns, at_ + 2, 4, rfl, (s2.trans (same_upd hl3)).seq hS, by omega, by omega, by omega, fun v3 H3 p3 q3 s3' => ?_⟩⟩
    obtain ⟨x3, e3, c3⟩ := four _ (.int 0) (.int 2) (.int 4) (.int 6) rfl v3 p3 q3
    obtain ⟨sh, rfl⟩ : ∃ sh, x3 = .int sh := by rcases c3 with h | h | h | h <;> exact ⟨_, h⟩
    refine ⟨l3, _, v3, _, rfl, rfl, SqL.of (s3' _ _ upd_same), e3, ?_⟩
    have s3 := s2.trans ((same_upd hl3).trans s3')
    -- top
    refine ⟨(by decide), fun l4 hl4 => ⟨_, rfl, _, rfl, _, _, rfl, rfl, a, ns, at_ + 3, 4, rfl, (s3.trans (same_upd hl4)).seq hS, by omega, by omega, by omega, fun v4 H4 p4 q4 s4' => ?_⟩⟩
    obtain ⟨x4, e4, c4⟩ := four _ (.int 1) (.int 2) (.int 3) (.int 10) rfl v4 p4 q4
    obtain ⟨tp, rfl, t1, t2⟩ : ∃ tp : Int, x4 = .int tp ∧ 1 ≤ tp ∧ tp ≤ 10 := by rcases c4 with h | h | h | h <;> exact ⟨_, h, by decide, by decide⟩
    refine ⟨l4, _, v4, _, rfl, rfl, SqL.of (s4' _ _ upd_same), e4, ?_⟩
    have s4 := s3.trans ((same_upd hl4).trans s4')
    -- made
    refine ⟨(by decide), fun pm hpm => ?_⟩
    have hpm0 : H pm = none := s4.free hpm
    have keep : ∀ {H' : Hp} {o : HO}, Same H H' → Same H (upd H' pm o) := fun {H' o} s' b u e => by rw [upd_ne (ne_of_none e hpm0)]; exact s' b u e
    refine ⟨_, rfl, 1 + v1, rfl, by omega, by omega, for_range (lo := 0) (n := (1 + v1).toNat) (fun i σ G => ∃ (made : List Str) (r8 r9 r10 r11 : Option V), σ = [some (.ref a), some (.int at_), some (.int m), some (.int (1 + v1)), some (.int (1 + v2)), some (.int sh), some (.int tp), some (.ref pm), r8, r9, r10, r11] ∧
      Same H G ∧ G pm = some (.lst (made.map V.str)) ∧ made.length = i ∧ ∀ r ∈ made, RowOk (1 + v2).toNat r) ⟨[], none, none, none, none, rfl, keep s4, upd_same, rfl, fun _ h => nomatch h⟩ ?_ ?_⟩
    · rintro i σ G hi ⟨made, r8, r9, r10, r11, rfl, sG, hG, hml, hrow⟩
      -- the columns
      refine ⟨_, rfl, 1 + v2, rfl, by omega, by omega, for_range (lo := 0) (n := (1 + v2).toNat) (fun j σ' G' => ∃ (z : Str) (r10 r11 : Option V), σ' = [some (.ref a), some (.int at_), some (.int m), some (.int (1 + v1)), some (.int (1 + v2)), some (.int sh), some (.int tp), some (.ref pm), some (.int (0 + (i : Int))), some (.str z), r10, r11] ∧
        Same H G' ∧ G' pm = some (.lst (made.map V.str)) ∧ RowOk j z) ⟨"", r10, r11, rfl, sG, hG, rfl, fun x hx => by cases hx⟩ ?_ ?_⟩
      · rintro j σ' G' hj ⟨z, r10', r11', rfl, sG', hG', hz⟩
        have hpr : (m : Int) * (0 + (i : Int)) ≤ 12 * 12 := by
          have e1 : (m : Int) * (0 + (i : Int)) ≤ 12 * (0 + (i : Int)) := Int.mul_le_mul_of_nonneg_right (by omega) (by omega)
          omega
        have hpr0 : 0 ≤ (m : Int) * (0 + (i : Int)) := Int.mul_nonneg (by omega) (by omega)
        refine ⟨_, rfl, _, rfl, _, _, rfl, rfl, _, rfl, _, rfl, _, _, rfl, rfl, .inl ⟨by omega, by omega⟩, _, _, rfl, rfl, _, rfl, _, _, rfl, rfl, _, rfl, _, _, rfl, rfl, .inl ⟨by decide, by decide⟩,
          a, ns, at_ + 4 + m * (0 + (i : Int)) + (0 + (j : Int)), 12 * tp, rfl, sG'.seq hS, by omega, by omega, by omega, fun v5 H5 p5 q5 s5' => ?_⟩
        have s5 := sG'.trans s5'
        refine ⟨_, rfl, _, rfl, _, _, rfl, rfl, (show (0 : Int) < 12 by decide), _, rfl, _, _, rfl, rfl, _, rfl, ?_⟩
        have fin : ∀ y : Str, (∃ c, y.cps.toList = [c] ∧ sgn c = true) → z.length + y.length ≤ sizeLine ∧ RowOk (j + 1) (z ++ y) := fun y ⟨c, ec, hc⟩ => by
          have h1 : z.length = j := by have := hz.1; simpa [Str.length] using this
          have h2 : y.length = 1 := by have := congrArg List.length ec; simpa [Str.length] using this
          refine ⟨by rw [h1, h2]; exact Nat.le_trans (show j + 1 ≤ 1000 by omega) (by decide), ?_, ?_⟩
          · rw [PyProof.Rows.cps_toList_append, List.length_append, hz.1, ec]
            rfl
          · intro x hx
            rw [PyProof.Rows.cps_toList_append, ec, List.mem_append] at hx
            rcases hx with hx | hx
            · exact hz.2 x hx
            · rw [List.mem_singleton.mp hx]; exact hc
        refine ite2 (fun _ => ?_) (fun _ => ?_)
        · obtain ⟨f1, f2⟩ := fin "#" ⟨35, by decide +kernel, by decide⟩
          exact ⟨_, _, rfl, rfl, f1, ⟨_, _, _, rfl, s5, s5' _ _ hG', f2⟩⟩
        · have d0 : 0 ≤ v5 / 12 := by omega
          have d9 : v5 / 12 ≤ 9 := by omega
          obtain ⟨f1, f2⟩ := fin _ (digit_txt (v5 / 12) d0 d9)
          exact ⟨_, rfl, _, _, rfl, rfl, ⟨by decide, by decide⟩, _, rfl, log2_small _ d0 d9, _, _, rfl, rfl, f1, ⟨_, _, _, rfl, s5, s5' _ _ hG', f2⟩⟩
      · rintro σ' G' ⟨z, r10', r11', rfl, sG', hG', hz⟩
        refine ⟨_, rfl, .inl ⟨rfl, _, SqL.of hG'⟩, _, rfl, pm, _, _, rfl, rfl, hG', ?_, ?_⟩
        · rw [List.length_map, hml]; exact Nat.lt_of_le_of_lt (show i ≤ 1000 by omega) (by decide)
        · refine ⟨made ++ [z], _, _, _, _, rfl, keep sG', ?_, by rw [List.length_append, hml]; rfl, fun r hr => ?_⟩
          · rw [upd_same, List.map_append]; rfl
          · rcases List.mem_append.mp hr with h | h
            · exact hrow r h
            · rw [List.mem_singleton.mp h]; exact hz
    · rintro σ G ⟨made, r8, r9, r10, r11, rfl, sG, hG, hml, hrow⟩
      refine ⟨_, rfl, pm, _, rfl, .inl ⟨SqL.of hG, fun p hp => ?_⟩⟩
      exact q p made (1 + v2).toNat _ ⟨by omega, by omega, by omega, by omega, hrow⟩ (sG.trans (same_upd hp)) upd_same
theorem scDW : FnScope ["_law_script", "_law_at"] ["_law_script", "_law_at"] (defScope lWalker) := ⟨rfl, rfl, rfl, by decide +kernel, rfl, by decide +kernel, by decide +kernel⟩
theorem ok_wk {f fP : Addr} {fd fdP : FuncData} (F : Fun K "_law_walker" "_law_walker" lWalker f fd) (T : TxD mg) (GP : FnOk P w K mg base CX0 2 fP fdP ["_law_script", "_law_k", "_law_many"] (spPick K)) (mP : mg "_law_pick" = some (.ref fP))
    (kP : PySem.W.keepIn K (.ref fP) = true) (bP : Binds K fdP ["_law_script", "_law_k", "_law_many"] []) : FnOk P w K mg base CX0 3 f fd ["_law_script", "_law_at"] (spWk K) := by
  refine F.ok scDW (fun vs H Q E h => ?_) (fun cdv A outer s H vs Q E hr h => ?_)
  · obtain ⟨a, ns, at_, rfl, _⟩ := h
    rfl
  · obtain ⟨a, ns, at_, rfl, hS, a0, a1, q⟩ := h
    refine ⟨_, pss_one (ps_ret (pe_tup (pa_cons (pe_cmpR op_eq (pe_call GP hr rfl mP kP bP .nil pass0 (pa_cons (pv 0) (pa_cons (pv 1) (pa_cons pe_int pa_nil)))) pe_int (nomark _))
      (pa_cons (pe_ix ix_list (pe_lst (pa_cons pe_int (pa_cons pe_int (pa_cons pe_int (pa_cons pe_int pa_nil))))) (pe_call GP hr rfl mP kP bP .nil pass0 (pa_cons (pv 0) (pa_cons (pe_op op_add (pv 1) pe_int) (pa_cons pe_int pa_nil)))) (fun _ _ => rfl))
      (pa_cons (pe_call GP hr rfl mP kP bP .nil pass0 (pa_cons (pv 0) (pa_cons (pe_op op_add (pv 1) pe_int) (pa_cons pe_int pa_nil)))) pa_nil))))), ?_⟩
    refine ⟨_, rfl, _, rfl, a, ns, at_, 2, rfl, hS, a0, by omega, by omega, fun v1 H1 p1 q1 s1 => ⟨rfl, ?_⟩⟩
    refine ⟨(by decide), fun l2 hl2 => ⟨_, rfl, _, rfl, _, _, rfl, rfl, a, ns, at_ + 1, 4, rfl, (s1.trans (same_upd hl2)).seq hS, by omega, by omega, by omega, fun v2 H2 p2 q2 s2' => ?_⟩⟩
    obtain ⟨x2, e2, c2⟩ := four _ (.int 0) (.int 1) (.int 2) (.int 9) rfl v2 p2 q2
    obtain ⟨cl, rfl, t1, t2⟩ : ∃ cl : Int, x2 = .int cl ∧ 0 ≤ cl ∧ cl ≤ 9 := by rcases c2 with h | h | h | h <;> exact ⟨_, h, by decide, by decide⟩
    refine ⟨l2, _, v2, _, rfl, rfl, SqL.of (s2' _ _ upd_same), e2, ?_⟩
    have s2 := s1.trans ((same_upd hl2).trans s2')
    refine ⟨_, rfl, _, rfl, _, _, rfl, rfl, a, ns, at_ + 2, 4, rfl, s2.seq hS, by omega, by omega, by omega, fun v3 H3 p3 q3 s3' => ⟨(show 3 ≤ sizeLine by decide), fun p hp => ?_⟩⟩
    exact q p _ cl v3 _ t1 t2 p3 (by omega) (s2.trans (s3'.trans (same_upd hp))) upd_same
end
end K03


set_option maxHeartbeats 4000000
namespace K03
open PySem L2 Cw
abbrev lAny : Stmt := top 34
def spLAny (K : PySem.W.Frag) : Sp := fun vs H Q _ => ∃ (a fl : Addr) (ns : List Int) (at_ : Int) (rows : List Str) (c : Nat), vs = [.ref a, .int at_, .ref fl] ∧ SqL K H a (ns.map V.int) ∧ FloorAt H fl rows c ∧ 0 ≤ at_ ∧ at_ < 1000 ∧
  ∀ p (r k : Int) H', -1 ≤ r → r ≤ rows.length → -1 ≤ k → k ≤ c → Same H H' → H' p = some (.tup [.int r, .int k]) → Q (.ref p) H'
section
variable {P : Program} {w : World} {K : PySem.W.Frag} {mg : Str → Option Value} {base : Heap}
theorem scAny : FnScope ["_law_script", "_law_at", "_law_floor_here"] ["_law_script", "_law_at", "_law_floor_here"] (defScope lAny) := ⟨rfl, rfl, rfl, by decide +kernel, rfl, by decide +kernel, by decide +kernel⟩
theorem ok_any {f fP : Addr} {fd fdP : FuncData} (F : Fun K "_law_any_spot" "_law_any_spot" lAny f fd) (T : TxD mg) (GP : Call1 P w K mg base "_law_pick" 2 ["_law_script", "_law_k", "_law_many"] (spPick K) fP fdP) : FnOk P w K mg base CX0 3 f fd ["_law_script", "_law_at", "_law_floor_here"] (spLAny K) := by
  refine F.ok scAny (fun vs H Q E h => ?_) (fun cdv A outer s H vs Q E hr h => ?_)
  · obtain ⟨a, fl, ns, at_, rows, c, rfl, _⟩ := h
    rfl
  · obtain ⟨a, fl, ns, at_, rows, c, rfl, hS, hf, a0, a1, q⟩ := h
    have hrm := hf.ok.rm
    have hcm := hf.ok.cm
    obtain ⟨z0, hz0, hz0l⟩ : ∃ z, rows[0]? = some z ∧ z.length = c := by
      have h0 : 0 < rows.length := hf.ok.r1
      exact ⟨rows[0], List.getElem?_eq_getElem h0, by have := (hf.ok.row rows[0] (List.getElem_mem h0)).1; simpa [Str.length] using this⟩
    refine ⟨_, pss_one (ps_ret (pe_tup (pa_cons (pe_op op_sub (pe_call GP.ok hr (by rfl) GP.m GP.kp GP.b .nil pass0 (pa_cons (pv 0) (pa_cons (pv 1) (pa_cons (pe_op op_add (pe_callB call_len_seq (by rfl) T.len PySem.boot_len (pa_cons (pv 2) pa_nil)) pe_int) pa_nil)))) pe_int)
      (pa_cons (pe_op op_sub (pe_call GP.ok hr (by rfl) GP.m GP.kp GP.b .nil pass0 (pa_cons (pv 0) (pa_cons (pe_op op_add (pv 1) pe_int) (pa_cons (pe_op op_add (pe_callB call_len_str (by rfl) T.len PySem.boot_len (pa_cons (pe_ix ix_tup (pv 2) pe_int (fun _ _ => rfl)) pa_nil)) pe_int) pa_nil)))) pe_int) pa_nil)))), ?_⟩
    refine ⟨_, rfl, _, rfl, _, rfl, fl, _, rfl, .inr (SqT.of hf.at_), _, _, rfl, rfl, a, ns, at_, _, rfl, hS, a0, by omega, by omega, fun v1 H1 p1 q1 s1 => ⟨_, _, rfl, rfl, ?_⟩⟩
    rw [List.length_map] at q1
    refine ⟨_, rfl, _, rfl, _, _, rfl, rfl, _, rfl, fl, _, 0, .str z0, rfl, rfl, SqT.of (s1 _ _ hf.at_), atI_nat (j := 0) (by rw [List.getElem?_map, hz0]; rfl), _, rfl, (by rw [hz0l]; exact Nat.le_trans hcm (by decide)), _, _, rfl, rfl,
      a, ns, at_ + 1, _, rfl, s1.seq hS, by omega, by omega, by omega, fun v2 H2 p2 q2 s2 => ⟨_, _, rfl, rfl, ?_⟩⟩
    rw [hz0l] at q2
    refine ⟨(show 2 ≤ sizeLine by decide), fun n g => ?_⟩
    exact q n (v1 - 1) (v2 - 1) _ (by omega) (by omega) (by omega) (by omega) ((s1.trans s2).trans (same_upd g)) upd_same
end
end K03


set_option maxHeartbeats 4000000
namespace L2
open PySem PySem.Spec PyProof.Rows
open PySem.W (hideAll hideAll_get of_hideAll funFrames_hide)
/-- how an exception of an own class lies behind a call -/
structure Fly (P : Program) (w : World) (outer : List Env) (H : Hp) (s : Shared) (E : XK) (a C t : Addr) (vs : List Value) (H' : Hp) (B : Heap) (s' : Shared) : Prop where
  os : s'.os = s.os
  bare : AllBare s'.gens
  hok : HOk P w H' B
  fly : Heap.FlyingW B outer a (.ref C) (.ref t) s'.heap
  tn : B.get? t = none
  tup : s'.heap.TupAt t vs
  keepB : ∀ b o, s.heap.get? b = some o → H b = none → b ∉ frs outer → B.get? b = some o
  thereB : ∀ b o, s.heap.get? b = some o → b ∉ frs outer → ∃ o', B.get? b = some o'
  un : Un (frs outer) [] H H' s.heap s'.heap
  ends : E (.ref C) (some a) H'
def CX1 (P : Program) (w : World) : CXT := fun outer H s E e s' => ∃ a C t vs H' B, e = .ref a ∧ Fly P w outer H s E a C t vs H' B s'
section
variable {P : Program} {w : World} {K : PySem.W.Frag} {mg : Str → Option Value} {base : Heap} {N : List Str} {qual : Str} {scope : Scope} {f : Addr} {cd : Value} {A : Around} {outer : List Env} {s0 : Shared} {H0 : Hp} {E : XK}
theorem out_of {X : Cx} {pins : List (Addr × Obj)} {σ : St} {H : Hp} {s : Shared} (I : Inv X pins σ H s) {b : Addr} {o : Obj} (hl : X.env.locals = X.s₀.heap.objs.size) (q : X.s₀.heap.get? b = some o) (hb : b ∉ X.fs) : b ∉ frs X.stack := fun z => by
  rcases List.mem_cons.mp (I.stkSub b z) with e | e
  · rw [hl] at e
    exact absurd (Heap.lt_size q) (by rw [e]; exact Nat.lt_irrefl _)
  · exact hb e
theorem pass1 : Passes (CX1 P w) (cxOf (CX1 P w) P w K mg base N qual scope f cd A outer s0 H0 E) E := by
  rintro pins σ H s e s' I ⟨a, C, t, vs, H', B, rfl, F⟩
  have nx : ∀ b : Addr, b ∉ (cxOf (CX1 P w) P w K mg base N qual scope f cd A outer s0 H0 E).ex := fun b z => nomatch (show b ∈ ([] : List Addr) from z)
  have keepB : ∀ b o, s0.heap.get? b = some o → H0 b = none → b ∉ frs outer → B.get? b = some o := fun b o q n hb =>
    F.keepB b o (I.base.keep b o q n hb (nx b)) (I.base.free b o q n (nx b)) (out_of I rfl q hb)
  have thereB : ∀ b o, s0.heap.get? b = some o → b ∉ frs outer → ∃ o', B.get? b = some o' := fun b o q hb => by
    obtain ⟨o1, q1⟩ := I.base.there b o q (nx b)
    exact F.thereB b o1 q1 (out_of I rfl q hb)
  refine wpAny_leaves_onW I.ok.frames rfl F.fly fun h' x1 x2 => ⟨a, C, t, vs, H', B, rfl, ?_⟩
  have slot : ∀ b o, s0.heap.get? b = some o → H0 b = none → b ∈ frs outer → ∃ sl, h'.get? b = some { o with slots := sl } := fun b o q n hb => by
    obtain ⟨sl, q1⟩ := I.base.slot b o q n hb (nx b)
    obtain ⟨sl2, q2⟩ := F.un.any q1 (I.base.free b o q n (nx b)) (fun z => nomatch z)
    obtain ⟨_, o', q3, hd⟩ := F.fly.2.2.1.mem (b := b) (List.mem_filterMap.mpr (let ⟨v, h1, h2⟩ := List.mem_filterMap.mp hb; ⟨v, .tail _ h1, h2⟩))
    rw [q2] at q3
    cases q3
    obtain ⟨sl3, q4⟩ := x2 b _ q2 hd
    exact ⟨sl3, q4⟩
  refine ⟨F.os.trans I.os, F.bare, F.hok, x1, F.tn, F.tup.of_slots x2, keepB, thereB, ⟨fun b o q n hb _ => x1.1 _ _ (keepB b o q n hb), fun b o q n hb _ => slot b o q n hb, fun b o q n _ => ?_, fun b o q _ => ?_, fun b xs q => F.un.tups _ _ (I.base.tups _ _ q), fun b o u q => F.un.frzs _ _ _ (I.base.frzs _ _ _ q), fun b ps q => ?_⟩, F.ends⟩
  · obtain ⟨sl, q1⟩ := I.base.any q n (nx b)
    exact F.un.free b _ q1 (I.base.free b o q n (nx b)) (fun z => nomatch z)
  · by_cases hb : b ∈ frs outer
    · obtain ⟨sl, q1⟩ := slot b o q (I.ok.frf b hb) hb
      exact ⟨_, q1⟩
    · obtain ⟨o', q1⟩ := thereB b o q hb
      exact ⟨o', x1.1 _ _ q1⟩
  · obtain ⟨m1, q1⟩ := I.base.tbls b ps q
    obtain ⟨m2, q2⟩ := F.un.tbls b _ q1
    exact ⟨m1 ++ m2, by rw [← Array.append_assoc]; exact q2⟩
/-- what is made and raised here leaves the frame -/
theorem raise1 {pins : List (Addr × Obj)} {σ : St} {H : Hp} {s : Shared} {h1 : Heap} {e C : Addr} {us : List Value} (I : Inv (cxOf (CX1 P w) P w K mg base N qual scope f cd A outer s0 H0 E) pins σ H s)
    (hx : Heap.MadeExcOf s.heap h1 e (.ref C) us) (hE : E (.ref C) (some e) H) : (cxOf (CX1 P w) P w K mg base N qual scope f cd A outer s0 H0 E).xe (.ref e) { s with heap := h1 } := by
  have nx : ∀ b : Addr, b ∉ (cxOf (CX1 P w) P w K mg base N qual scope f cd A outer s0 H0 E).ex := fun b z => nomatch (show b ∈ ([] : List Addr) from z)
  have hin : ∀ env ∈ (cxOf (CX1 P w) P w K mg base N qual scope f cd A outer s0 H0 E).stack, ∀ b, env.frame = some b → b ∈ frs (cxOf (CX1 P w) P w K mg base N qual scope f cd A outer s0 H0 E).stack := fun env he b hb => List.mem_filterMap.mpr ⟨env, he, hb⟩
  refine wpAny_leaves_madeW (h := s.heap) I.ok.frames rfl (fun b o q => of_hideAll _ q) (funFrames_hide I.stack hin) hx fun h' t x1 x2 x3 x4 => ⟨e, C, t, us, H, hideAll s.heap (frs (cxOf (CX1 P w) P w K mg base N qual scope f cd A outer s0 H0 E).stack), rfl, ?_⟩
  have keepB : ∀ b o, s0.heap.get? b = some o → H0 b = none → b ∉ frs outer → (hideAll s.heap (frs (cxOf (CX1 P w) P w K mg base N qual scope f cd A outer s0 H0 E).stack)).get? b = some o := fun b o q n hb =>
    hideAll_get _ (I.base.keep b o q n hb (nx b)) (out_of I rfl q hb)
  have thereB : ∀ b o, s0.heap.get? b = some o → b ∉ frs outer → ∃ o', (hideAll s.heap (frs (cxOf (CX1 P w) P w K mg base N qual scope f cd A outer s0 H0 E).stack)).get? b = some o' := fun b o q hb => by
    obtain ⟨o1, q1⟩ := I.base.there b o q (nx b)
    exact ⟨o1, hideAll_get _ q1 (out_of I rfl q hb)⟩
  have slot : ∀ b o, s0.heap.get? b = some o → H0 b = none → b ∈ frs outer → ∃ sl, h'.get? b = some { o with slots := sl } := fun b o q n hb => by
    obtain ⟨sl, q1⟩ := I.base.slot b o q n hb (nx b)
    obtain ⟨_, o', q3, hd⟩ := I.stack.mem (b := b) (List.mem_filterMap.mpr (let ⟨v, h1, h2⟩ := List.mem_filterMap.mp hb; ⟨v, .tail _ h1, h2⟩))
    rw [q1] at q3
    cases q3
    obtain ⟨sl3, q4⟩ := x4 b _ (hx.keeps _ _ q1) hd
    exact ⟨sl3, q4⟩
  refine ⟨I.os, I.bare, fun b o q => ?_, x1, x3, x2, keepB, thereB, ⟨fun b o q n hb _ => x1.1 _ _ (keepB b o q n hb), fun b o q n hb _ => slot b o q n hb, fun b o q n _ => I.base.free b o q n (nx b), fun b o q _ => ?_, I.base.tups, I.base.frzs, I.base.tbls⟩, hE⟩
  · refine (I.hok b o q).stay (fun c v hc r => hideAll_get _ r fun z => ?_) (fun _ q => q) fun _ _ q => q
    have z' := I.stkFree c z
    rcases hc with rfl | hc
    · rw [q] at z'; cases z'
    · rw [hc] at z'; cases z'
  · by_cases hb : b ∈ frs outer
    · obtain ⟨sl, q1⟩ := slot b o q (I.ok.frf b hb) hb
      exact ⟨_, q1⟩
    · obtain ⟨o', q1⟩ := thereB b o q hb
      exact ⟨o', x1.1 _ _ q1⟩
end
end L2


set_option maxHeartbeats 4000000
namespace L2
open PySem PySem.Spec PyProof.Rows
theorem objOk_there {P : Program} {w : World} {H : Hp} {h : Heap} {a : Addr} {o : HO} (x : ObjOk P w H h a o) : ∃ o', h.get? a = some o' := by
  cases o with
  | lst xs => obtain ⟨_, _, _, _, e⟩ := x; exact ⟨_, e⟩
  | tup xs => obtain ⟨_, _, _, o, e, _⟩ := x; exact ⟨_, e⟩
  | dK kvs => obtain ⟨_, _, _, _, o, _, _, e, _⟩ := x; exact ⟨_, e⟩
  | dT kvs => obtain ⟨_, _, _, _, o, _, _, e, _⟩ := x; exact ⟨_, e⟩
  | set S n => obtain ⟨o, _, _, _, e, _⟩ := x; exact ⟨_, e⟩
  | ins C dx fs => obtain ⟨_, _, _, e, _⟩ := x; exact ⟨_, e⟩
  | own y => exact x
  | xd fs => obtain ⟨_, ⟨_, _, _, e, _⟩, _⟩ := x; exact ⟨_, e⟩
  | rng lo hi => obtain ⟨_, _, _, e⟩ := x; exact ⟨_, e⟩
  | frz ob u => obtain ⟨e, _⟩ := x; exact ⟨_, e⟩
  | tbl ps => exact ⟨_, x⟩
  | met f y => exact ⟨_, x⟩
  | ext φ => exact x.2.1
/-- raise C(..): the arguments, then what is wanted of the exception -/
def tRaise (C : Addr) (E : XK) (ta : TA) : TS := fun _ σ H => ta σ H fun vs H1 => vs.length ≤ sizeLine ∧ ∀ e, H1 e = none → E (.ref C) (some e) H1
section
variable {P : Program} {w : World} {K : PySem.W.Frag} {mg : Str → Option Value} {base : Heap} {N : List Str} {qual : Str} {scope : Scope} {f : Addr} {cd : Value} {A : Around} {outer : List Env} {s0 : Shared} {H0 : Hp} {E : XK}
theorem ps_raise {x : Str} {C : Addr} {Bn newId initId : String} {bm : List Value} {e₀ : Expr} {rest : List Expr} {np cpos pos : Pos} {ta : TA} (hg : Gl (cxOf (CX1 P w) P w K mg base N qual scope f cd A outer s0 H0 E) x) (O : OwnCls x C bm newId mg base) (FB : ExcBaseFacts Bn newId initId bm)
    (ha : PA (cxOf (CX1 P w) P w K mg base N qual scope f cd A outer s0 H0 E) (e₀ :: rest) ta)
    (he : starEach (e₀ :: rest) (cxOf (CX1 P w) P w K mg base N qual scope f cd A outer s0 H0 E).env = (false, eval e₀ (cxOf (CX1 P w) P w K mg base N qual scope f cd A outer s0 H0 E).env) :: starEach rest (cxOf (CX1 P w) P w K mg base N qual scope f cd A outer s0 H0 E).env := by rfl)
    (hplain : (backTo cpos (starEach rest (cxOf (CX1 P w) P w K mg base N qual scope f cd A outer s0 H0 E).env)).any (·.1) = false := by rfl) (hd : (x == ("__debug__" : Str)) = false := by decide) :
    PS (cxOf (CX1 P w) P w K mg base N qual scope f cd A outer s0 H0 E) (.Raise (some (.Call (.Name x np) (e₀ :: rest) [] cpos)) none pos) (tRaise C E ta) := by
  intro pins s σ H D I h
  obtain ⟨tl, Nn, nm, q, bs, hdct, sn, sub, ab, col, dd, k0, k1, k2, k3, k5, mN, hC, hN, hni, T⟩ := O.obj
  refine wpAny_Raise_call_subT (C := C) (nm := nm) (q := q) (N := Nn) (bs := bs) (bm := tl) (hdct := hdct) (sn := sn) (sub := sub) (ab := ab) (col := col) (dd := dd) (k0 := k0) (k1 := k1) (k2 := k2) (k3 := k3) (k5 := k5)
    FB (mN := mN) (T.hasType FB.hasBase) (I.ok.hd rfl) (by rw [he]; show (false || (backTo cpos (starEach rest (cxOf (CX1 P w) P w K mg base N qual scope f cd A outer s0 H0 E).env)).any (·.1)) = false; rw [hplain]; rfl) hni (ld_glob I hg O.bound ⟨rfl, ?_⟩ hd)
  have h2 := ha cpos pins s σ H _ I h
  rw [he] at h2 ⊢
  refine Calls.evalArgs_plain (wpAny_mono h2 (fun us s2 ⟨vs, H1, I1, rv, hl, hE⟩ => ?_) fun _ _ y => y)
  refine ⟨rfl, by rw [← rv.length]; exact hl, I1.bk _ _ hC, hN.keeps I1.bk, T.keeps I1.bk, fun h1 e hx => raise1 I1 hx (hE e ?_)⟩
  cases z : H1 e with
  | none => rfl
  | some o =>
    obtain ⟨o', ho'⟩ : ∃ o', s2.heap.get? e = some o' := by
      exact objOk_there (I1.hok _ _ z)
    rw [hx.new] at ho'
    cases ho'
/-- THE RULE for a def that may raise -/
theorem Fun.ok1 {x qual : Str} {st : Stmt} {f : Addr} {fd : FuncData} {N ps : List Str} {k : Nat} {sp : Sp} (F : Fun K x qual st f fd) (S : FnScope N ps (defScope st)) (len : ∀ vs H Q E, sp vs H Q E → vs.length = ps.length)
    (hbody : ∀ (cdv : Value) (A : Around) (outer : List Env) (s : Shared) (H : Hp) (vs : List V) (Q : VK) (E : XK), Room k (A.deeper (envOfC qual (defScope st) s.heap.objs.size f cdv)) → sp vs H Q E →
      ∃ t, PSs (cxOf (CX1 P w) P w K mg base N qual (defScope st) f cdv A outer s H E) (defBody st) t ∧ t { nx := fun _ H' => Q .non H', rt := Q } (start N vs) H) : FnOk P w K mg base (CX1 P w) (k + 1) f fd ps sp := by
  obtain ⟨oc, od, kV, doc, pm, an, cdv, ct, osl, rfl, lk, hcd⟩ := F.ex
  refine fn_of lk hcd S len fun A outer s H vs Q E hr hsp => ?_
  exact hbody cdv A outer s H vs Q E hr hsp
end
end L2


set_option maxHeartbeats 4000000
namespace L2
open PySem PySem.Spec PyProof.Rows
/-- an exception object of the class at C -/
def excO (a C : Addr) : HO := .ext fun h => ∃ ob vs, h.get? a = some ob ∧ ob.cls = .ref C ∧ ob.data = .fields vs
section
variable {P : Program} {w : World}
theorem Fly.fresh {outer : List Env} {H : Hp} {s s' : Shared} {E : XK} {a C t : Addr} {vs : List Value} {H' : Hp} {B : Heap} (F : Fly P w outer H s E a C t vs H' B s') : H' a = none := by
  cases z : H' a with
  | none => rfl
  | some o =>
    obtain ⟨o', ho'⟩ := objOk_there (F.hok _ _ z)
    rw [F.fly.2.1] at ho'
    cases ho'
/-- caught in this body: the state goes on, with the exception in hand -/
theorem Inv.caught {X : Cx} {pins : List (Addr × Obj)} {σ : St} {H : Hp} {s s' : Shared} {E : XK} {a C t : Addr} {vs : List Value} {H' : Hp} {B h6 : Heap} {tk : Nat} (I : Inv X pins σ H s) (F : Fly X.prog X.w X.stack H s E a C t vs H' B s')
    (hf : Heap.FlyingW B X.stack a (.ref C) (.ref t) h6) (hs : s'.heap.UpToSlots h6) : Inv X pins σ (upd H' a (excO a C)) { s' with heap := h6, toks := tk } := by
  have ha := F.fresh
  obtain ⟨oa, va, ea, ca, da, _⟩ := hf.first
  have frame : ∀ b, b ∈ frs X.stack → ∃ o, h6.get? b = some o ∧ ∀ vs, o.data ≠ .fields vs := fun b hb => (hf.2.2.1.mem hb).2
  have ne : ∀ b o, s.heap.get? b = some o → b ≠ a := fun b o q z => by
    subst z
    by_cases hb : b ∈ frs X.stack
    · obtain ⟨o', q', hd⟩ := frame b hb
      rw [ea] at q'
      cases q'
      exact hd _ da
    · obtain ⟨o', q'⟩ := F.thereB b o q hb
      rw [F.fly.2.1] at q'
      cases q'
  have slot : ∀ b o, s.heap.get? b = some o → H b = none → b ∈ frs X.stack → ∃ sl, h6.get? b = some { o with slots := sl } := fun b o q n hb => by
    obtain ⟨sl2, q2⟩ := F.un.any q n (fun z => nomatch z)
    obtain ⟨_, o', q3, hd⟩ := F.fly.2.2.1.mem (b := b) hb
    rw [q2] at q3
    cases q3
    obtain ⟨sl3, q4⟩ := hs b _ q2 hd
    exact ⟨sl3, q4⟩
  have un : Un (frs X.stack) [] H (upd H' a (excO a C)) s.heap h6 := by
    refine ⟨fun b o q n hb _ => hf.1 _ _ (F.keepB b o q n hb), fun b o q n hb _ => slot b o q n hb, fun b o q n _ => ?_, fun b o q _ => ?_, fun b xs q => ?_, fun b o u q => ?_, fun b ps q => ?_⟩
    · rw [upd_ne (ne b o q)]; exact F.un.free b o q n (fun z => nomatch z)
    · by_cases hb : b ∈ frs X.stack
      · obtain ⟨o', q', _⟩ := frame b hb
        exact ⟨o', q'⟩
      · obtain ⟨o', q1⟩ := F.thereB b o q hb
        exact ⟨o', hf.1 _ _ q1⟩
    · have q1 := F.un.tups b xs q
      rw [upd_ne (ne_of_none q1 ha)]; exact q1
    · have q1 := F.un.frzs b o u q
      rw [upd_ne (ne_of_none q1 ha)]; exact q1
    · obtain ⟨m, q1⟩ := F.un.tbls b ps q
      exact ⟨m, by rw [upd_ne (ne_of_none q1 ha)]; exact q1⟩
  have hok : HOk X.prog X.w (upd H' a (excO a C)) h6 := fun b o q => by
    by_cases hb : b = a
    · subst hb
      rw [upd_same] at q
      cases q
      exact ⟨⟨oa, va, ea, ca, da⟩, ⟨oa, ea⟩, fun h1 h2 ⟨ob, vs, e1, e2, e3⟩ k => ⟨ob, vs, k _ e1, e2, e3⟩⟩
    · rw [upd_ne hb] at q
      exact (F.hok b o q).stay (fun c v hc r => hf.1 _ _ r) (fun c r => by rw [upd_ne (ne_of_none r ha)]; exact r) fun c xs r => by rw [upd_ne (ne_of_none r ha)]; exact r
  obtain ⟨hh, g, d, tt, os'⟩ := s'
  obtain rfl : os' = s.os := F.os
  have fin := I.call (h' := h6) (g' := g) (d' := d) (t' := tk) (ch := []) un hok F.bare (fun b z => absurd z (by simp))
  exact fin
end
end L2


set_option maxHeartbeats 4000000
namespace L2
open PySem PySem.Spec PyProof.Rows
section
variable {X : Cx} {pins : List (Addr × Obj)} {σ : St} {H : Hp} {s : Shared}
/-- a name is unbound behind an except suite -/
theorem gone_ok {M : Model} {A : Around} {E : Value → Shared → Prop} {i : Nat} {x : Str} {pos : Pos} {Q : Unit → Shared → Prop} (I : Inv X pins σ H s) (hN : X.N.Nodup) (hi : X.N[i]? = some x) (hk : X.env.scope.names.lookup x = some .local)
    (h : ∀ s', Inv X pins (σ.set i none) H s' → Q () s') : wpAny M A (do bindName X.env x .none; unbindBehindTheSuite X.env x pos) Q E s := by
  obtain ⟨m, hn, hl⟩ := id I.loc
  have hcls : (X.env.scope.kind == .class || (X.env.scope.kind == .module && X.env.locals != X.env.globals)) = false := by rw [I.ok.kind]; rfl
  have hiσ : i < σ.length := by rw [I.len]; exact (List.getElem?_eq_some_iff.mp hi).1
  have cne := I.cne
  have tracked : ∀ {a : Addr} {h' : Heap}, (∃ o, s.heap.get? a = some o ∧ H a = none) → Heap.SameBut a s.heap h' → HOk X.prog X.w H h' := fun {a h'} ha hs b ob e => by
    obtain ⟨_, _, hfree⟩ := ha
    refine (I.hok b ob e).stay (fun c w' hc q => (hs.2 c ?_).trans q) (fun _ q => q) fun _ _ q => q
    rintro rfl
    rcases hc with rfl | hc
    · rw [hfree] at e; cases e
    · rw [hfree] at hc; cases hc
  refine wpAny_nameGoes_keeps hk hn hcls fun h' v0 hn' hs => ?_
  obtain ⟨oL, _, _, hoL, _⟩ := id hn
  refine h _ ⟨I.ok, I.os, I.bare, ⟨fun b o e n hb hx => ?_, fun b o e n hb hx => ?_, I.base.free, fun b o e hx => ?_, I.base.tups, I.base.frzs, I.base.tbls⟩, ⟨_, hn', fun j y v' e1 e2 e3 => ?_⟩, fun y c e => ?_, I.free, I.freeC, fun p hp => ?_, tracked ⟨oL, hoL, I.free⟩ hs, by simpa using I.len⟩
  · exact (hs.2 b (Nat.ne_of_lt (Nat.lt_of_lt_of_le (Heap.lt_size e) I.ok.above))).trans (I.base.keep b o e n hb hx)
  · obtain ⟨sl, e1⟩ := I.base.slot b o e n hb hx
    exact ⟨sl, (hs.2 b (Nat.ne_of_lt (Nat.lt_of_lt_of_le (Heap.lt_size e) I.ok.above))).trans e1⟩
  · obtain ⟨o', e1⟩ := I.base.there b o e hx
    exact ⟨o', (hs.2 b (Nat.ne_of_lt (Nat.lt_of_lt_of_le (Heap.lt_size e) I.ok.above))).trans e1⟩
  · by_cases hj : j = i
    · subst hj
      rw [List.getElem?_set_self hiσ] at e2
      cases e2
    · rw [List.getElem?_set_ne (Ne.symm hj)] at e2
      obtain ⟨u', r', q⟩ := hl j y v' e1 e2 e3
      refine ⟨u', r', ?_⟩
      rcases q with ⟨k, e⟩ | ⟨k, c, e, z⟩
      · refine .inl ⟨k, ?_⟩
        have : y ≠ x := fun e => hj (nodup_ix hN e1 (e ▸ hi))
        simp [this, e]
      · exact .inr ⟨k, c, e, z.sameBut hs (cne y c e)⟩
  · obtain ⟨w', z⟩ := I.cell y c e
    exact ⟨w', z.sameBut hs (cne y c e)⟩
  · obtain ⟨e, n, ne, nf, d⟩ := I.pin p hp
    exact ⟨(hs.2 p.1 ne).trans e, n, ne, nf, d⟩
abbrev Cx.with1 (X : Cx) (pn : List (Addr × Obj)) (xe : Value → Shared → Prop) : Cx := { X with pn := pn, xe := xe }
/-- within an except suite -/
abbrev Cx.marked (X : Cx) (a : Addr) (pn : List (Addr × Obj)) : Cx := { X with A := X.A.mark (some (.ref a)), calm := false, pn := pn, xe := fun _ _ => False }
theorem ok_with1 {pn : List (Addr × Obj)} {xe : Value → Shared → Prop} (o : X.Ok) : (X.with1 pn xe).Ok := ⟨o.mod, o.kind, o.glob, o.blt, o.above, o.inj, o.has, o.cab, o.hd, o.frames, o.stk, o.exf, o.bs, o.bsz, o.noex, o.exfs, o.funs, o.frf⟩
theorem ok_marked {a : Addr} {pn : List (Addr × Obj)} (o : X.Ok) : (X.marked a pn).Ok := ⟨o.mod, o.kind, o.glob, o.blt, o.above, o.inj, o.has, o.cab, (fun h => nomatch h), o.frames, o.stk, o.exf, o.bs, o.bsz, o.noex, o.exfs, o.funs, o.frf⟩
theorem Inv.with1 {xe : Value → Shared → Prop} (I : Inv X pins σ H s) : Inv (X.with1 (X.pn ++ pins) xe) [] σ H s := ⟨ok_with1 I.ok, I.os, I.bare, I.base, I.loc, I.cell, I.free, I.freeC, fun p hp => I.pin p (by rwa [List.append_nil] at hp), I.hok, I.len⟩
theorem Inv.unwith1 {xe : Value → Shared → Prop} (o : X.Ok) {pins' : List (Addr × Obj)} (I : Inv (X.with1 (X.pn ++ pins) xe) pins' σ H s) : Inv X pins σ H s := ⟨o, I.os, I.bare, I.base, I.loc, I.cell, I.free, I.freeC, fun p hp => I.pin p (List.mem_append_left _ hp), I.hok, I.len⟩
theorem Inv.mark {a : Addr} (I : Inv X pins σ H s) : Inv (X.marked a (X.pn ++ pins)) [] σ H s := ⟨ok_marked I.ok, I.os, I.bare, I.base, I.loc, I.cell, I.free, I.freeC, fun p hp => I.pin p (by rwa [List.append_nil] at hp), I.hok, I.len⟩
theorem Inv.unmark {a : Addr} (o : X.Ok) {pins' : List (Addr × Obj)} (I : Inv (X.marked a (X.pn ++ pins)) pins' σ H s) : Inv X pins σ H s := ⟨o, I.os, I.bare, I.base, I.loc, I.cell, I.free, I.freeC, fun p hp => I.pin p (List.mem_append_left _ hp), I.hok, I.len⟩
end
end L2


set_option maxHeartbeats 4000000
namespace L2
open PySem PySem.Spec PyProof.Rows
/-- what is wanted of an exception in the try suite: it is caught, the name is bound, the except suite goes on -/
def catches (K : PySem.W.Frag) (N : List Str) (Dc : Addr) (i : Nat) (ts : TS) (D : Ends) : XK := fun c ao H' => ∃ a C, c = .ref C ∧ ao = some a ∧ PySem.W.exmOne K (.ref C) (.ref Dc) = some true ∧
  ∀ σ' : St, σ'.length = N.length → ts { nx := fun σ2 H2 => D.nx (σ2.set i none) H2, rt := fun v H2 => D.rt v H2, bk := fun σ2 H2 => D.bk (σ2.set i none) H2, ct := fun σ2 H2 => D.ct (σ2.set i none) H2 } (σ'.set i (some (.ref a))) (upd H' a (excO a C))
def tTry (K : PySem.W.Frag) (N : List Str) (Dc : Addr) (i : Nat) (tb : XK → TS) (ts : TS) : TS := fun D σ H => tb (catches K N Dc i ts D) D σ H
section
variable {X : Cx}
theorem ps_try {body : List Stmt} {x n : Str} {np hpos pos : Pos} {b₀ : Stmt} {suite : List Stmt} {Dc : Addr} {i : Nat} {tb : XK → TS} {ts : TS} (hN : X.N.Nodup) (hi : X.N[i]? = some n) (hn : X.env.scope.names.lookup n = some .local) (hfr : X.stack = X.env :: X.outer) (hloc : X.env.frame = some X.env.locals)
    (hg : Gl X x) (hm : X.mg x = some (.ref Dc)) (hb : ∀ (pn : List (Addr × Obj)) (xe : Value → Shared → Prop) (E' : XK), Passes (CX1 X.prog X.w) (X.with1 pn xe) E' → PSs (X.with1 pn xe) body (tb E'))
    (hs : ∀ a pn, PSs (X.marked a pn) (b₀ :: suite) ts) (hd : (x == ("__debug__" : Str)) = false := by decide) :
    PS X (.Try body [.ExceptHandler (some (.Name x np)) (some n) (b₀ :: suite) hpos] [] [] pos) (tTry X.K X.N Dc i tb ts) := by
  intro pins s σ H D I h
  let xe : Value → Shared → Prop := fun e s' => ∃ σ' H1 s1, Inv X pins σ' H1 s1 ∧ CX1 X.prog X.w X.stack H1 s1 (catches X.K X.N Dc i ts D) e s'
  have hP : Passes (CX1 X.prog X.w) (X.with1 (X.pn ++ pins) xe) (catches X.K X.N Dc i ts D) := fun pins' σ' H1 s1 e s' I1 c => ⟨σ', H1, s1, I1.unwith1 I.ok, c⟩
  refine wpAny_Try_except (wpAny_mono (hb (X.pn ++ pins) xe _ hP [] s σ H D I.with1 h) (fun f s1 hf => ?_) fun e s1 hx => ?_)
  · cases f with
    | next =>
      obtain ⟨σ', H', I', q⟩ := hf
      exact pss_nil pins s1 σ' H' D (I'.unwith1 I.ok) q
    | brk =>
      obtain ⟨σ', H', I', q⟩ := hf
      exact ⟨σ', H', I'.unwith1 I.ok, q⟩
    | cont =>
      obtain ⟨σ', H', I', q⟩ := hf
      exact ⟨σ', H', I'.unwith1 I.ok, q⟩
    | ret u =>
      obtain ⟨v, σ', H', I', r, q⟩ := hf
      exact ⟨v, σ', H', I'.unwith1 I.ok, r, q⟩
  · obtain ⟨σ', H1, s2, I1, a, C, t, vs, H', B, rfl, F⟩ := hx
    have hfl := F.fly
    rw [hfr] at hfl
    refine wpAny_looks_onW (by rw [← hfr]; exact I1.ok.frames) hloc hfl fun h4 held4 sm4 => ?_
    refine wpAny_landsW held4 fun h5 held5 sm5 => ?_
    have fl5 := held5
    rw [← hfr] at fl5
    have I5 := I1.caught (tk := s1.toks) F fl5 (sm4.trans sm5)
    obtain ⟨oa, va, ea, ca, da, _⟩ := fl5.first
    obtain ⟨a', C', e1, e2, hx, hq⟩ := F.ends
    cases e1
    cases e2
    refine wpAny_handleBy_cons (codeAny_handlers_test (ld_glob (X := X.marked a (X.pn ++ pins)) I5.mark hg hm ?_ hd)) (by intro q; cases q)
    have LT : PySem.W.Looks (model X.prog X.w) h5 (typeOf (.ref a)) (.ref C) := by
      rw [← ca]
      exact (PySem.W.Looks.ld ea).andThen .now
    refine PySem.W.exm_one (K := X.K) I5.kIn LT hx _ _ _ _ (fun _ _ e => e) ?_
    refine codeAny_handlers_suite_as ?_
    refine lands_againW held5 fun h6 fl6 sm6 => ?_
    rw [← hfr] at fl6
    have I6 := I1.caught (tk := s1.toks) F fl6 ((sm4.trans sm5).trans sm6)
    refine store_ok (X := X.marked a (X.pn ++ pins)) (i := i) (v := .ref a) I6.mark hN hi (.inl hn) rfl (fun s7 I7 => ?_) (.inr hn)
    refine wpAny_mono (hs a (X.pn ++ pins) [] s7 _ _ _ I7 (hq σ' I1.len)) (fun f s8 hf => ?_) fun _ _ z => z.elim
    cases f with
    | next =>
      obtain ⟨σ8, H8, I8, q8⟩ := hf
      exact gone_ok (I8.unmark I.ok) hN hi hn fun s9 I9 => ⟨_, H8, I9, q8⟩
    | brk =>
      obtain ⟨σ8, H8, I8, q8⟩ := hf
      exact gone_ok (I8.unmark I.ok) hN hi hn fun s9 I9 => ⟨_, H8, I9, q8⟩
    | cont =>
      obtain ⟨σ8, H8, I8, q8⟩ := hf
      exact gone_ok (I8.unmark I.ok) hN hi hn fun s9 I9 => ⟨_, H8, I9, q8⟩
    | ret u =>
      obtain ⟨v, σ8, H8, I8, r8, q8⟩ := hf
      exact gone_ok (I8.unmark I.ok) hN hi hn fun s9 I9 => ⟨v, _, H8, I9, r8, q8⟩
end
end L2


set_option maxHeartbeats 4000000
namespace L2
open PySem PySem.Spec PyProof.Rows
section
variable {P : Program} {w : World} {K : PySem.W.Frag} {mg : Str → Option Value} {base : Heap} {k : Nat} {f : Addr} {fd : FuncData} {ps : List Str} {sp sp' : Sp}
/-- what never raises, where raising is allowed -/
theorem fn_lift (F : FnOk P w K mg base CX0 k f fd ps sp) : FnOk P w K mg base (CX1 P w) k f fd ps sp :=
  ⟨F.len, fun A outer s H args us vs Q E hr he hb hv hs => codeAny_mono (F.run A outer s H args us vs Q E hr he hb hv hs) fun r s' h => by
    cases r with
    | ok v => cases v <;> exact h
    | error e => exact False.elim h⟩
theorem fn_or {CX : CXT} (F : FnOk P w K mg base CX k f fd ps sp) (G : FnOk P w K mg base CX k f fd ps sp') : FnOk P w K mg base CX k f fd ps (fun vs H Q E => sp vs H Q E ∨ sp' vs H Q E) :=
  ⟨fun vs H Q E h => h.elim (F.len vs H Q E) (G.len vs H Q E), fun A outer s H args us vs Q E hr he hb hv hs => hs.elim (fun h => F.run A outer s H args us vs Q E hr he hb hv h) fun h => G.run A outer s H args us vs Q E hr he hb hv h⟩
end
end L2
namespace K03
open PySem L2 Cw
structure Call2 (P : Program) (w : World) (K : PySem.W.Frag) (mg : Str → Option Value) (base : Heap) (x : Str) (k : Nat) (ps : List Str) (sp : Sp) (f : Addr) (fd : FuncData) : Prop where
  ok : FnOk P w K mg base (CX1 P w) k f fd ps sp
  m : mg x = some (.ref f)
  kp : PySem.W.keepIn K (.ref f) = true
  b : Binds K fd ps []
section
variable {P : Program} {w : World} {K : PySem.W.Frag} {mg : Str → Option Value} {base : Heap} {C : Addr} {Bn newId initId : String} {bm : List Value}
end
end K03


set_option maxHeartbeats 4000000
namespace L2
open PySem PySem.Spec PyProof.Rows
inductive Dt where
  | int (i : Int)
  | str (z : Str)
  | tup (ds : List Dt)
  | lst (ds : List Dt)
theorem paired_at {α β : Type} {R : α → β → Prop} : ∀ {xs : List α} {ys : List β}, Paired R xs ys → ∀ {i : Nat} {x : α}, xs[i]? = some x → ∃ y, ys[i]? = some y ∧ R x y
  | _, _, .nil, _, _, h => by simp at h
  | _, _, .cons r t, 0, x, h => by simp at h; subst h; exact ⟨_, rfl, r⟩
  | _, _, .cons r t, i + 1, x, h => by
    obtain ⟨y, h1, h2⟩ := paired_at t (i := i) (x := x) (by simpa using h)
    exact ⟨y, by simpa using h1, h2⟩
theorem paired_len {α β : Type} {R : α → β → Prop} : ∀ {xs : List α} {ys : List β}, Paired R xs ys → xs.length = ys.length
  | _, _, .nil => rfl
  | _, _, .cons _ t => by simp [paired_len t]
section
variable {X : Cx}
end
end L2


set_option maxHeartbeats 4000000
namespace Cw
open PySem L2
end Cw
namespace L2
open PySem PySem.Spec PyProof.Rows Cw
section
variable {X : Cx}
end
end L2


set_option maxHeartbeats 4000000
namespace L2
open PySem PySem.Spec PyProof.Rows
section
variable {X : Cx}
/-- sum(l) of whole numbers that are small together -/
theorem call_sumI (hc : X.calm = true) : CallR X (.builtin "sum") (fun xs H Q => ∃ (p : Addr) (ns : List Int), xs = [.ref p] ∧ SqL X.K H p (ns.map V.int) ∧ PyProof.Rows.SumFits ns ∧ Q (.int ns.sum) H) := by
  intro pins s σ H xs us Q I r h
  obtain ⟨p, ns, rfl, hp, hfit, q⟩ := h
  obtain ⟨u, rfl, ru⟩ := vals1 r
  cases ru
  obtain ⟨its, rv, pl, hz⟩ := I.list hp
  have hlt : p < s.heap.objs.size := by obtain ⟨_, e, _⟩ := pl.isList; exact Heap.lt_size e
  have hlen : its.length = ns.length := by rw [← rv.length, List.length_map]
  refine call_sum_walk (wpAny_pyIter_list pl.isList ?_)
  refine ⟨s.heap.objs.size, _, _, its.toArray.size, _, _, fun i => ns.getD i 0, rfl, Walks.list (A := X.A.in1) (I.ok.hd hc) s.heap.objs.size p (Nat.ne_of_lt hlt) its.toArray, ⟨⟨_, Heap.get?_push_size _ rfl, rfl, rfl⟩, pl.isList.push _⟩, fun b hb => ?_, fun i v hP => ?_, fun j hj => ?_, fun h' tk t' hk => ?_⟩
  · have : b = s.heap.objs.size ∨ b = p := by simpa using hb
    rw [Heap.size_push]
    rcases this with e | e
    · rw [e]; exact Nat.lt_succ_self _
    · rw [e]; exact Nat.lt_succ_of_lt hlt
  · have hv : its[i]? = some v := by simpa using hP
    have hi : i < ns.length := by rw [← hlen]; exact (List.getElem?_eq_some_iff.mp hv).1
    obtain ⟨u, hu, t, ru⟩ := rv.get (i := i) (x := V.int ns[i]) (by rw [List.getElem?_map, List.getElem?_eq_getElem hi]; rfl)
    rw [hv] at hu
    cases hu
    refine ⟨t, ?_⟩
    show _ = Value.int (ns.getD i 0) t
    rw [ru, List.getD_eq_getElem?_getD, List.getElem?_eq_getElem hi]
    rfl
  · rw [List.size_toArray, hlen] at hj
    have := hfit j hj
    show InLong (ns.getD j 0) ∧ InLong (preSum (fun i => ns.getD i 0) (j + 1))
    rw [preSum_getD]
    exact this
  · rw [preSum_getD, List.size_toArray, hlen, List.take_length]
    exact ⟨.int ns.sum, H, I.kept fun b o e => hk b o (by simp; exact Nat.ne_of_lt (Heap.lt_size e)) (Heap.get?_push_of_some _ e), ⟨_, rfl⟩, q⟩
/-- xs != [] -/
theorem op_ne_nil (hu : X.A.units < cLine) : OpR X (compareOp .NotEq) (fun x y H Q => ∃ a b xs, x = .ref a ∧ y = .ref b ∧ SqL X.K H a xs ∧ SqL X.K H b [] ∧ Q (.bl (!xs.isEmpty)) H) := by
  intro pins s σ H x y v u Q I rx ry h
  obtain ⟨a, b, xs, rfl, rfl, ha, hb, q⟩ := h
  cases rx
  cases ry
  obtain ⟨its, r1, p1, _⟩ := I.list ha
  obtain ⟨its2, r2, p2, _⟩ := I.list hb
  have e2 : its2 = [] := r2.nil_iff.mpr rfl
  subst e2
  cases xs with
  | nil =>
    have e1 : its = [] := r1.nil_iff.mpr rfl
    subst e1
    exact (SeqAt.RcNeAt.lists (e := fun _ => true) p1.isList p2.isList rfl hu (fun j h1 => by simp at h1)) _ _ _ _ (fin_bl I q (by simp))
  | cons x xs =>
    have hl := r1.length
    rw [List.length_cons] at hl
    exact (SeqAt.RcNeAt.lists_lengths p1.isList p2.isList (by rw [bne_iff_ne, List.size_toArray, List.size_toArray]; show its.length ≠ 0; omega) hu) _ _ _ _ (fin_bl I q rfl)
end
end L2


set_option maxHeartbeats 4000000
namespace Cw
open PySem L2
/-! ### the steps of the law, one by one -/
theorem filt_none {α : Type} [DecidableEq α] (c : α → Option Int) (g : α) : ∀ L : List α, g ∉ L → ((L.filterMap fun q => (c q).map fun n => (q, n)).filter fun st => decide (st.1 = g)) = []
  | [], _ => rfl
  | q :: L, h => by
    have h1 : q ≠ g := fun e => h (e ▸ List.mem_cons_self)
    have h2 := filt_none c g L fun e => h (List.mem_cons_of_mem _ e)
    rw [List.filterMap_cons]
    cases e : c q with
    | none => simpa using h2
    | some n =>
      show List.filter _ ((q, n) :: _) = _
      rw [List.filter_cons_of_neg (by simpa using h1)]
      exact h2
theorem filt_one {α : Type} [DecidableEq α] (c : α → Option Int) (g : α) : ∀ L : List α, L.Nodup → g ∈ L → (((L.filterMap fun q => (c q).map fun n => (q, n)).filter fun st => decide (st.1 = g)).map (·.2)) = (c g).toList
  | [], _, h => by cases h
  | q :: L, nd, h => by
    rw [List.nodup_cons] at nd
    rw [List.filterMap_cons]
    by_cases e : q = g
    · subst e
      have h2 := filt_none c q L nd.1
      cases e2 : c q with
      | none => rw [show ((none : Option Int).map fun n => (q, n)) = none from rfl]; simp only; rw [h2]; rfl
      | some n =>
        show List.map _ (List.filter _ ((q, n) :: _)) = _
        rw [List.filter_cons_of_pos (by simp), h2]
        rfl
    · have h2 := filt_one c g L nd.2 ((List.mem_cons.mp h).resolve_left fun z => e z.symm)
      cases e2 : c q with
      | none => simpa using h2
      | some n =>
        show List.map _ (List.filter _ ((q, n) :: _)) = _
        rw [List.filter_cons_of_neg (by simpa using e)]
        exact h2
theorem nine_nodup (r k : Int) : (nineQ r k 9).Nodup := by
  show List.Pairwise (· ≠ ·) (nineQ r k 9)
  unfold nineQ
  rw [List.pairwise_map]
  refine List.Pairwise.imp ?_ List.pairwise_lt_range
  intro a b h e
  injection e with e1 e2
  omega
theorem mem_nine {r k r' k' : Int} (h1 : r - 1 ≤ r') (h2 : r' ≤ r + 1) (h3 : k - 1 ≤ k') (h4 : k' ≤ k + 1) : (r', k') ∈ nineQ r k 9 := by
  unfold nineQ
  refine List.mem_map.mpr ⟨(3 * (r' - r + 1) + (k' - k + 1)).toNat, List.mem_range.mpr (by omega), ?_⟩
  have e : ((3 * (r' - r + 1) + (k' - k + 1)).toNat : Int) = 3 * (r' - r + 1) + (k' - k + 1) := Int.toNat_of_nonneg (by omega)
  rw [e]
  congr 1 <;> omega
/-- the costs that a goal has among the steps: none or one -/
theorem found_of {rows : List Str} {sl : Bool} {cl up r k r' k' : Int} (ho : openB rows r' k' = true) : ((stepsQ rows sl cl up r k).filter fun st => decide (st.1 = (r', k'))).map (·.2) = (costB rows sl cl up r k r' k').toList := by
  unfold stepsQ
  rw [around_nine]
  have nd : ((nineQ r k 9).filter (keepQ rows r k)).Nodup := List.Pairwise.filter _ (nine_nodup r k)
  by_cases hm : (r', k') ∈ (nineQ r k 9).filter (keepQ rows r k)
  · exact filt_one (fun q : Int × Int => costB rows sl cl up r k q.1 q.2) (r', k') _ nd hm
  · have e := filt_none (fun q : Int × Int => costB rows sl cl up r k q.1 q.2) (r', k') _ hm
    have e2 : costB rows sl cl up r k r' k' = none := by
      unfold costB
      have hb : besideB r k r' k' = false := by
        cases h : besideB r k r' k' with
        | false => rfl
        | true =>
          exfalso
          apply hm
          unfold besideB at h
          simp only [Bool.and_eq_true, Bool.not_eq_true', decide_eq_false_iff_not, decide_eq_true_eq] at h
          obtain ⟨h1, h2, h3⟩ := h
          have a1 : -1 ≤ r - r' ∧ r - r' ≤ 1 := by unfold absI at h2; split at h2 <;> omega
          have a2 : -1 ≤ k - k' ∧ k - k' ≤ 1 := by unfold absI at h3; split at h3 <;> omega
          refine List.mem_filter.mpr ⟨mem_nine (by omega) (by omega) (by omega) (by omega), ?_⟩
          unfold keepQ
          rw [ho, Bool.and_true, Bool.not_eq_true', decide_eq_false_iff_not]
          intro z
          apply h1
          injection z with z1 z2
          injection z2 with z2 _
          have z1' : r' = r := z1
          have z2' : k' = k := z2
          rw [z1', z2']
      rw [if_pos hb]
    rw [e2]
    show List.map _ (List.filter _ (List.filterMap (fun q : Int × Int => (costB rows sl cl up r k q.1 q.2).map fun n => (q, n)) _)) = []
    rw [e]
    rfl
/-! ### ways and what they cost -/
section
variable (rows : List Str) (sl : Bool) (cl up : Int)
def costAt (qs : List (Int × Int)) (j : Nat) : Option Int := costB rows sl cl up (qs.getD j (0, 0)).1 (qs.getD j (0, 0)).2 (qs.getD (j + 1) (0, 0)).1 (qs.getD (j + 1) (0, 0)).2
def sumTo (qs : List (Int × Int)) : Nat → Option Int
  | 0 => some 0
  | i + 1 => (sumTo qs i).bind fun s => (costAt rows sl cl up qs i).map fun c => s + c
def costVs (qs : List (Int × Int)) (i : Nat) : List V := (List.range i).map fun j => optV (costAt rows sl cl up qs j)
end
section
variable {rows : List Str} {sl : Bool} {cl up : Int} {qs : List (Int × Int)}
theorem costVs_succ (i : Nat) : costVs rows sl cl up qs (i + 1) = costVs rows sl cl up qs i ++ [optV (costAt rows sl cl up qs i)] := by
  unfold costVs
  rw [List.range_succ, List.map_append]
  rfl
theorem sumTo_some : ∀ {i : Nat} {t : Int}, sumTo rows sl cl up qs i = some t → ∃ ns : List Int, costVs rows sl cl up qs i = ns.map V.int ∧ ns.sum = t ∧ ns.length = i ∧ ∀ n ∈ ns, ∃ j, j < i ∧ costAt rows sl cl up qs j = some n
  | 0, t, h => by
    have : (0 : Int) = t := Option.some.inj h
    exact ⟨[], rfl, this ▸ rfl, rfl, fun n h => by cases h⟩
  | i + 1, t, h => by
    unfold sumTo at h
    cases e : sumTo rows sl cl up qs i with
    | none => rw [e] at h; cases h
    | some a =>
      rw [e] at h
      cases e2 : costAt rows sl cl up qs i with
      | none => rw [e2] at h; cases h
      | some c =>
        rw [e2] at h
        have ht : a + c = t := Option.some.inj h
        obtain ⟨ns, h1, h2, h3, h4⟩ := sumTo_some e
        refine ⟨ns ++ [c], ?_, ?_, ?_, ?_⟩
        · rw [costVs_succ, h1, e2, List.map_append]; rfl
        · rw [List.sum_append, h2]; simp; exact ht
        · rw [List.length_append, h3]; rfl
        · intro n hn
          rcases List.mem_append.mp hn with hn | hn
          · obtain ⟨j, hj, ej⟩ := h4 n hn
            exact ⟨j, by omega, ej⟩
          · rw [List.mem_singleton.mp hn]
            exact ⟨i, by omega, e2⟩
theorem inV_non_ints : ∀ ns : List Int, inV .non (ns.map V.int) = false
  | [] => rfl
  | n :: ns => by
    unfold inV
    rw [List.map_cons, List.any_cons]
    have := inV_non_ints ns
    unfold inV at this
    rw [this]
    rfl
theorem sumTo_none : ∀ {i : Nat}, sumTo rows sl cl up qs i = none → inV .non (costVs rows sl cl up qs i) = true
  | 0, h => by cases h
  | i + 1, h => by
    unfold inV
    rw [costVs_succ, List.any_append]
    unfold sumTo at h
    cases e : sumTo rows sl cl up qs i with
    | none =>
      have := sumTo_none e
      unfold inV at this
      rw [this]
      rfl
    | some a =>
      rw [e] at h
      cases e2 : costAt rows sl cl up qs i with
      | none => rw [Bool.or_eq_true]; exact .inr rfl
      | some c => rw [e2] at h; cases h
theorem sumTo_in {i : Nat} : inV .non (costVs rows sl cl up qs i) = !(sumTo rows sl cl up qs i).isSome := by
  cases e : sumTo rows sl cl up qs i with
  | none => rw [sumTo_none e]; rfl
  | some t =>
    obtain ⟨ns, h1, _⟩ := sumTo_some e
    rw [h1, inV_non_ints]
    rfl
theorem costVs_flat : ∀ i, (costVs rows sl cl up qs i).all flatV = true
  | 0 => rfl
  | i + 1 => by
    rw [costVs_succ, List.all_append, costVs_flat i]
    cases costAt rows sl cl up qs i <;> rfl
theorem costVs_len (i : Nat) : (costVs rows sl cl up qs i).length = i := by
  unfold costVs
  rw [List.length_map, List.length_range]
/-- heights of open spots -/
theorem height_09 {c m : Nat} (h : FlOk rows c m) {r k : Int} (ho : openB rows r k = true) : 0 ≤ heightB rows r k ∧ heightB rows r k ≤ 9 := by
  obtain ⟨h0, h1, h2, h3⟩ := onB_true (openB_on h ho)
  obtain ⟨z, x, _, _, hc, hs, _⟩ := codeAt_in h h0 h1 h2 h3
  unfold openB at ho
  rw [hc] at ho
  unfold heightB
  rw [hc]
  have : x ≠ 35 := by simpa using ho
  unfold sgn at hs
  simp at hs
  show 0 ≤ (x : Int) - 48 ∧ (x : Int) - 48 ≤ 9
  omega
theorem cost_bound {c m : Nat} (h : FlOk rows c m) {r k r' k' n : Int} (u0 : 0 ≤ up) (u3 : up ≤ 3) (ho : openB rows r k = true) (ho' : openB rows r' k' = true) (e : costB rows sl cl up r k r' k' = some n) : 0 ≤ n ∧ n ≤ 30 := by
  have a := height_09 h ho
  have b := height_09 h ho'
  unfold costB at e
  split at e
  · cases e
  · split at e
    · cases e
    · split at e
      · cases e
      · have e := Option.some.inj e
        have hu : 0 ≤ upI (heightB rows r' k' - heightB rows r k) ∧ upI (heightB rows r' k' - heightB rows r k) ≤ 9 := by
          unfold upI
          split <;> omega
        have hm : 0 ≤ up * upI (heightB rows r' k' - heightB rows r k) := Int.mul_nonneg u0 hu.1
        have hm2 : up * upI (heightB rows r' k' - heightB rows r k) ≤ 3 * 9 := Int.mul_le_mul u3 hu.2 hu.1 (by decide)
        split at e <;> omega
end
/-! ### things that may be ways -/
/-- an item: a spot, or what is none -/
inductive El (H : Hp) : V → Option (Int × Int) → Prop where
  | spot {p : Addr} {r k : Int} (e : H p = some (.tup [.int r, .int k])) : El H (.ref p) (some (r, k))
  | non : El H .non none
  | one {p : Addr} {i : Int} (e : H p = some (.tup [.int i])) : El H (.ref p) none
  | txt {p : Addr} {i : Int} {z : Str} (e : H p = some (.tup [.int i, .str z])) : El H (.ref p) none
  | lst {p : Addr} {xs : List V} (e : H p = some (.lst xs)) : El H (.ref p) none
theorem El.same {H H' : Hp} (s : Same H H') {v : V} {o : Option (Int × Int)} (h : El H v o) : El H' v o := by
  cases h with
  | spot e => exact .spot (s _ _ e)
  | non => exact .non
  | one e => exact .one (s _ _ e)
  | txt e => exact .txt (s _ _ e)
  | lst e => exact .lst (s _ _ e)
def openO (rows : List Str) : Option (Int × Int) → Bool
  | some q => openB rows q.1 q.2
  | none => false
theorem El.opens {rows : List Str} {H : Hp} {v : V} {o : Option (Int × Int)} (h : El H v o) : OpenIs rows H v (openO rows o) := by
  cases h with
  | spot e => exact .spot e rfl
  | non => exact .no (.plain trivial fun a => by intro z; cases z)
  | one e => exact .no (.tup e (fun y hy => by rw [List.mem_singleton.mp hy]; trivial) (show 1 ≤ 1000 by decide) rfl)
  | txt e => exact .no (.tup e (fun y hy => by
      simp only [List.mem_cons, List.mem_nil_iff, or_false] at hy
      rcases hy with rfl | rfl <;> trivial) (by show 2 ≤ 1000; decide) rfl)
  | lst e => exact .no (.lst e)
/-- what a thing costs as a way; none: it is no way -/
def sumO (rows : List Str) (sl : Bool) (cl up : Int) (os : List (Option (Int × Int))) : Option Int :=
  if os.isEmpty = false ∧ os.all (openO rows) = true then sumTo rows sl cl up (os.map fun o => o.getD (0, 0)) (os.length - 1) else none
inductive ThIs (rows : List Str) (sl : Bool) (cl up : Int) (H : Hp) : V → Option Int → Prop where
  | non : ThIs rows sl cl up H .non none
  | tup {p : Addr} {xs : List V} (e : H p = some (.tup xs)) : ThIs rows sl cl up H (.ref p) none
  | lst {p : Addr} {xs : List V} {os : List (Option (Int × Int))} {d : Option Int} (e : H p = some (.lst xs)) (h : Paired (El H) xs os) (hl : xs.length ≤ 100) (hd : d = sumO rows sl cl up os) : ThIs rows sl cl up H (.ref p) d
theorem ThIs.same {rows : List Str} {sl : Bool} {cl up : Int} {H H' : Hp} (s : Same H H') {v : V} {d : Option Int} (h : ThIs rows sl cl up H v d) : ThIs rows sl cl up H' v d := by
  cases h with
  | non => exact .non
  | tup e => exact .tup (s _ _ e)
  | lst e h hl hd => exact .lst (s _ _ e) (Paired.mapP h fun _ _ z => z.same s) hl hd
section
variable {K : PySem.W.Frag}
theorem mList : PySem.W.kitMeta "list" = true := by decide +kernel
theorem ty_listN {H : Hp} : ∃ t, TyOf K H .non t ∧ PySem.W.kitOne K t (.type "list") = some false := ⟨_, .non, kit_of (b := false) (by decide +kernel) mList (by decide +kernel)⟩
theorem ty_listT {H : Hp} {a : Addr} {xs : List V} (e : H a = some (.tup xs)) : ∃ t, TyOf K H (.ref a) t ∧ PySem.W.kitOne K t (.type "list") = some false := ⟨_, .tup e, kit_of (b := false) (by decide +kernel) mList (by decide +kernel)⟩
theorem ty_listL {H : Hp} {a : Addr} {xs : List V} (e : H a = some (.lst xs)) : ∃ t, TyOf K H (.ref a) t ∧ PySem.W.kitOne K t (.type "list") = some true := ⟨_, .lst e, kit_same _⟩
end
end Cw
namespace L2
open PySem PySem.Spec PyProof.Rows Cw
section
variable {X : Cx}
theorem pe_tyList {pos : Pos} (hg : Gl X "list") (hm : X.mg "list" = none) : PE X (.Name "list" pos) (tC (.ty "list")) := pe_bltn hg hm (u := .type "list") (by decide +kernel) rfl
theorem spot_eqAt {A : Around} {pins : List (Addr × Obj)} {σ : St} {H : Hp} {s : Shared} (I : Inv X pins σ H s) (hu : A.units + 2 < cLine) {b : Addr} {r k : Int} (hb : H b = some (.tup [.int r, .int k])) {x : V} {v : Value} {o : Option (Int × Int)} (hx : El H x o) (rx : RelV x v) :
    SeqAt.EqAt A s (.ref b) v (decide (o = some (r, k))) := by
  obtain ⟨i1, r1, p1, _⟩ := I.tuple (SqT.of (K := X.K) hb)
  obtain ⟨u0, u1, rfl, ⟨t0, rfl⟩, ⟨t1, rfl⟩⟩ := vals2 r1
  have p1' : s.heap.IsTuple b #[.int r t0, .int k t1] := p1
  cases hx with
  | non =>
    cases rx
    exact SeqAt.EqAt.tuple_none p1' (by omega)
  | lst e =>
    cases rx
    obtain ⟨i2, r2, p2, _⟩ := I.list (SqL.of (K := X.K) e)
    exact SeqAt.EqAt.tuple_list p1' p2.isList (by omega)
  | @one p i e =>
    cases rx
    obtain ⟨i2, r2, p2, _⟩ := I.tuple (SqT.of (K := X.K) e)
    obtain ⟨u2, rfl, ⟨t2, rfl⟩⟩ := vals1 r2
    have hne : b ≠ p := fun z => by subst z; rw [hb] at e; cases e
    refine SeqAt.EqAt.of_refs hne ?_
    have := SeqAt.RcAt.tuples (A := A) (e := fun j => ([r, k] : List Int).getD j 0 == ([i] : List Int).getD j 0) p1' (show s.heap.IsTuple p #[.int i t2] from p2) (by omega) (fun j h1 h2 => by
      have hj : j = 0 := by simp at h2; omega
      subst hj
      exact SeqAt.EqAt.int_int _ _ _ _)
    simpa using this
  | @txt p i z e =>
    cases rx
    obtain ⟨i2, r2, p2, _⟩ := I.tuple (SqT.of (K := X.K) e)
    obtain ⟨u2, u3, rfl, ⟨t2, rfl⟩, ⟨t3, rfl⟩⟩ := vals2 r2
    have hne : b ≠ p := fun z => by subst z; rw [hb] at e; cases e
    refine SeqAt.EqAt.of_refs hne ?_
    have := SeqAt.RcAt.tuples (A := A) (e := fun j => if j = 0 then r == i else false) p1' (show s.heap.IsTuple p #[.int i t2, .str z t3] from p2) (by omega) (fun j h1 h2 => by
      have hj : j = 0 ∨ j = 1 := by simp at h2; omega
      rcases hj with hj | hj <;> subst hj
      · exact SeqAt.EqAt.int_int _ _ _ _
      · exact SeqAt.EqAt.int_str _ _ _ _)
    simpa [List.range_succ] using this
  | @spot p r' k' e =>
    cases rx
    by_cases hne : b = p
    · subst hne
      rw [hb] at e
      cases e
      rw [decide_eq_true rfl]
      exact SeqAt.EqAt.same _
    · obtain ⟨i2, r2, p2, _⟩ := I.tuple (SqT.of (K := X.K) e)
      obtain ⟨u2, u3, rfl, ⟨t2, rfl⟩, ⟨t3, rfl⟩⟩ := vals2 r2
      refine SeqAt.EqAt.of_refs hne ?_
      have := SeqAt.RcAt.tuples (A := A) (e := fun j => ([r, k] : List Int).getD j 0 == ([r', k'] : List Int).getD j 0) p1' (show s.heap.IsTuple p #[.int r' t2, .int k' t3] from p2) (by omega) (fun j h1 h2 => by
        have hj : j = 0 ∨ j = 1 := by simp at h2; omega
        rcases hj with hj | hj <;> subst hj <;> exact SeqAt.EqAt.int_int _ _ _ _)
      have ap := all_pair [r, k] [r', k']
      have e3 : decide (some (r', k') = some (r, k)) = decide (([r, k] : List Int) = [r', k']) := by
        refine decide_eq_decide.mpr ⟨fun z => ?_, fun z => ?_⟩
        · cases z; rfl
        · injection z with z1 z2
          injection z2 with z2 _
          rw [z1, z2]
      rw [e3, ← ap]
      exact this
/-- an item not in a list of spots -/
theorem op_notin_els (hu : X.A.units + 4 < cLine) : OpR X (compareOp .NotIn) (fun x y H Q => ∃ (l : Addr) (o : Option (Int × Int)) (vs : List V) (qs : List (Int × Int)), y = .ref l ∧ El H x o ∧ H l = some (.lst vs) ∧ IsSps H vs qs ∧ Q (.bl (!decide (o ∈ qs.map some))) H) := by
  intro pins s σ H x y v u Q I rx ry h
  obtain ⟨l, o, vs, qs, rfl, hx, hl, hvs, q⟩ := h
  cases ry
  obtain ⟨its, q1, z1, _⟩ := I.list (SqL.of (K := X.K) hl)
  have each : ∀ {its : List Value} {vs : List V} {qs : List (Int × Int)}, Vals vs its → IsSps H vs qs → ∃ e : Value → Bool, (∀ y ∈ its, SeqAt.EqAt X.A.in1 s y v (e y)) ∧ its.any e = decide (o ∈ qs.map some) := by
    intro its vs qs r1
    have key : ∀ y : Value, ∃ b : Bool, (∀ b' r k, y = .ref b' → H b' = some (.tup [.int r, .int k]) → b = decide (o = some (r, k))) := fun y => by
      cases y with
      | ref b' =>
        cases hb : H b' with
        | none => exact ⟨false, fun b2 r k e1 e2 => by cases e1; rw [hb] at e2; cases e2⟩
        | some ob =>
          by_cases hr : ∃ r k, ob = .tup [.int r, .int k]
          · obtain ⟨r, k, rfl⟩ := hr
            exact ⟨decide (o = some (r, k)), fun b2 r2 k2 e1 e2 => by cases e1; rw [hb] at e2; cases e2; rfl⟩
          · exact ⟨false, fun b2 r2 k2 e1 e2 => by cases e1; rw [hb] at e2; cases e2; exact absurd ⟨_, _, rfl⟩ hr⟩
      | _ => exact ⟨false, fun b2 r k e1 => by cases e1⟩
    have ⟨ef, hef⟩ : ∃ ef : Value → Bool, ∀ y b' r k, y = .ref b' → H b' = some (.tup [.int r, .int k]) → ef y = decide (o = some (r, k)) := ⟨fun y => Classical.choose (key y), fun y b' r k h1 h2 => Classical.choose_spec (key y) b' r k h1 h2⟩
    intro h2
    refine ⟨ef, ?_⟩
    induction r1 generalizing qs with
    | nil => cases h2; exact ⟨fun _ h => (by cases h), by simp⟩
    | cons rv rt ih =>
      cases h2 with
      | @cons _ q0 _ qt hq ht =>
      obtain ⟨b, rfl, hb⟩ := hq
      cases rv
      obtain ⟨i1, i2⟩ := ih ht
      have e := hef _ b _ _ rfl hb
      refine ⟨fun y hy => ?_, ?_⟩
      · rcases List.mem_cons.mp hy with rfl | hy
        · rw [e]
          exact spot_eqAt I (by show X.A.units + 1 + 2 < _; omega) hb hx rx
        · exact i1 y hy
      · rw [List.any_cons, i2, e, List.map_cons]
        by_cases h1 : o = some q0
        · simp [h1]
        · simp [h1]
  obtain ⟨ef, e1, e2⟩ := each q1 hvs
  refine SeqAt.notIn_listAt ef z1.isList (fun y hy => e1 y (by simpa using hy)) (fin_bl I q ?_)
  rw [← e2]
  simp
end
end L2


set_option maxHeartbeats 4000000
namespace L2
open PySem PySem.Spec PyProof.Rows
section
variable {X : Cx} {pins : List (Addr × Obj)} {σ : St} {H : Hp} {s : Shared} {h' : Heap} {ch : List Addr}
/-- what moves is the iterator's own -/
theorem Inv.moved {tk : Nat} (I : Inv X pins σ H s) (hf : ∀ b ∈ ch, FpOk X pins H b) (kk : ∀ b o, b ∉ ch → s.heap.get? b = some o → h'.get? b = some o) : Inv X pins σ H { s with heap := h', toks := tk } := by
  have neH : ∀ b o, H b = some o → b ∉ ch := fun b o q z => by rw [(hf b z).1] at q; cases q
  refine I.step (g' := s.gens) (d' := s.drawn) (ch := ch) (fun b hb => ?_) (fun b o _ _ hc q _ => kk b o hc q) (fun b o _ _ hc q _ => ⟨o.slots, kk b o hc q⟩) (fun _ _ _ _ n => n)
    (fun b o hc q => ⟨o, kk b o hc q⟩) (fun b xs q => q) (fun b o u q => q) (fun b ps q => ⟨#[], by rw [q]; simp⟩) (fun m hm => ?_) (fun b o q => ?_) I.bare
  · obtain ⟨f0, f1, f2, f3, f4, f5⟩ := hf b hb
    exact ⟨f3, f1, f4, f5⟩
  · obtain ⟨o, es, ep, q, r⟩ := hm
    exact ⟨o, es, ep, kk _ o (fun z => (hf _ z).2.1 rfl) q, r⟩
  · refine (I.hok b o q).stay (fun c v hc z => kk c v ?_ z) (fun c z => z) fun c xs z => z
    rcases hc with z' | z'
    · rw [z']; exact neH b o q
    · exact neH c _ z'
/-- the same, and a new pair -/
theorem Inv.movedPair {tk : Nat} {x y : V} {u v : Value} {ob : Obj} {n : Nat} (I : Inv X pins σ H s) (hf : ∀ b ∈ ch, FpOk X pins H b) (kk : ∀ b o, b ∉ ch → s.heap.get? b = some o → h'.get? b = some o)
    (hp : h'.get? s.heap.objs.size = some ob) (hc : ob.cls = .type "tuple") (hd : ob.data = .seq #[u, v] n) (rx : RelV x u) (ry : RelV y v) : Inv X pins σ (upd H s.heap.objs.size (.tup [x, y])) { s with heap := h', toks := tk } := by
  have neH : ∀ b o, H b = some o → b ∉ ch ∧ b ≠ s.heap.objs.size := fun b o q => ⟨(fun z => (by rw [(hf b z).1] at q; cases q)), Nat.ne_of_lt (I.hok.lt q)⟩
  refine I.step (g' := s.gens) (d' := s.drawn) (ch := ch) (fun b hb => ?_) (fun b o _ _ hc q _ => kk b o hc q) (fun b o _ _ hc q _ => ⟨o.slots, kk b o hc q⟩) (fun b o _ q nb => by rw [upd_ne (Nat.ne_of_lt (Heap.lt_size q))]; exact nb)
    (fun b o hc q => ⟨o, kk b o hc q⟩) (fun b xs q => by rw [upd_ne (neH b _ q).2]; exact q) (fun b o u q => by rw [upd_ne (neH b _ q).2]; exact q) (fun b ps q => ⟨#[], by rw [upd_ne (neH b _ q).2, q]; simp⟩) (fun m hm => ?_) (fun b o q => ?_) I.bare
  · obtain ⟨f0, f1, f2, f3, f4, f5⟩ := hf b hb
    exact ⟨f3, f1, f4, f5⟩
  · obtain ⟨o, es, ep, q, r⟩ := hm
    exact ⟨o, es, ep, kk _ o (fun z => (hf _ z).2.1 rfl) q, r⟩
  · by_cases hb : b = s.heap.objs.size
    · subst hb
      rw [upd_same] at q
      cases q
      exact ⟨(show 2 ≤ sizeLine by decide), [u, v], .cons rx (.cons ry .nil), ⟨_, hp, hc, _, hd⟩⟩
    · rw [upd_ne hb] at q
      refine (I.hok b o q).stay (fun c v hc z => kk c v ?_ z) (fun c z => by rw [upd_ne (neH c _ z).2]; exact z) fun c xs z => by rw [upd_ne (neH c _ z).2]; exact z
      rcases hc with z' | z'
      · rw [z']; exact (neH b o q).1
      · exact (neH c _ z').1
end
/-- zip(l, m): the pairs -/
def Itz (K : PySem.W.Frag) (a b : Addr) (xs ys : List V) : It :=
  ⟨fun i H => SqL K H a xs ∧ SqL K H b ys ∧ i < xs.length ∧ i < ys.length, fun i H v H' => ∃ p x y, v = .ref p ∧ H p = none ∧ H' = upd H p (.tup [x, y]) ∧ xs[i]? = some x ∧ ys[i]? = some y,
    fun i H => SqL K H a xs ∧ SqL K H b ys ∧ (xs.length ≤ i ∨ ys.length ≤ i)⟩
theorem turn_zip {P : Program} {w : World} {K : PySem.W.Frag} {elts : List Expr} {x1 : Nat} {pos : Pos} (a b z TI TO i1 i2 : Addr) (xs ys : List V) (hTT : TI ≠ TO) (h12 : i1 ≠ i2) :
    Turn P w K (.Tuple elts x1 pos) (Itz K a b xs ys) [z, TI, TO, i1, i2] z (fun i h => IsZip h z TI TO .none ∧ IsPair h TI (.ref i1) (.ref i2) ∧ (∃ c d, IsPair h TO c d) ∧ h.IsListIter i1 a i ∧ h.IsListIter i2 b i) where
  mem := by simp
  obj := fun i h st c hc => by
    obtain ⟨q1, q2, ⟨_, _, q3⟩, ⟨o4, q4, _, d4⟩, ⟨o5, q5, _, d5⟩⟩ := st
    simp only [List.mem_cons, List.mem_nil_iff, or_false] at hc
    rcases hc with e | e | e | e | e <;> subst e
    · exact ⟨_, q1, fun v q => by cases q⟩
    · exact ⟨_, q2, fun v q => by cases q⟩
    · exact ⟨_, q3, fun v q => by cases q⟩
    · exact ⟨_, q4, fun v q => by rw [d4] at q; cases q⟩
    · exact ⟨_, q5, fun v q => by rw [d5] at q; cases q⟩
  keep := fun i h h' st k => by
    obtain ⟨q1, q2, ⟨c, d, q3⟩, ⟨o4, q4, r4⟩, ⟨o5, q5, r5⟩⟩ := st
    exact ⟨k z (by simp) _ q1, k TI (by simp) _ q2, ⟨c, d, k TO (by simp) _ q3⟩, ⟨o4, k i1 (by simp) _ q4, r4⟩, ⟨o5, k i2 (by simp) _ q5, r5⟩⟩
  item := by
    intro X hP hw hK hc i pins s σ H E I hf st hg
    subst hP hw hK
    obtain ⟨ha, hb, l1, l2⟩ := hg
    obtain ⟨its1, rv1, p1, _⟩ := I.list ha
    obtain ⟨its2, rv2, p2, _⟩ := I.list hb
    have apart : ZipApart z TI TO i1 i2 a b := by
      obtain ⟨q1, q2, ⟨_, _, q3⟩, ⟨o4, q4, c4, _⟩, ⟨o5, q5, c5, _⟩⟩ := st
      obtain ⟨o6, q6, c6, _⟩ := p1.isList
      obtain ⟨o7, q7, c7, _⟩ := p2.isList
      refine ⟨ne_cls q2 q1 ?_, ne_cls q3 q1 ?_, ne_cls q4 q1 ?_, ne_cls q5 q1 ?_, hTT, ne_cls q2 q4 ?_, ne_cls q2 q5 ?_, ne_cls q3 q4 ?_, ne_cls q3 q5 ?_, h12, ne_cls q6 q1 ?_, ne_cls q6 q3 ?_, ne_cls q6 q4 ?_, ne_cls q6 q5 ?_, ne_cls q7 q1 ?_, ne_cls q7 q3 ?_, ne_cls q7 q4 ?_, ne_cls q7 q5 ?_⟩
      all_goals (try rw [c4]); (try rw [c5]); (try rw [c6]); (try rw [c7])
      all_goals (first | (show Value.type "tuple" ≠ Value.type "zip"; decide +kernel) | (show Value.type "list_iterator" ≠ Value.type "zip"; decide +kernel) | (show Value.type "tuple" ≠ Value.type "list_iterator"; decide +kernel) | (show Value.type "list" ≠ Value.type "zip"; decide +kernel) | (show Value.type "list" ≠ Value.type "tuple"; decide +kernel) | (show Value.type "list" ≠ Value.type "list_iterator"; decide +kernel))
    obtain ⟨q1, q2, ⟨c, d, q3⟩, q4, q5⟩ := st
    obtain ⟨u, hu, ru⟩ := rv1.get (List.getElem?_eq_getElem l1)
    obtain ⟨v, hv, rv⟩ := rv2.get (List.getElem?_eq_getElem l2)
    have hnew : H s.heap.objs.size = none := I.hok.fresh (Nat.le_refl _)
    have nz : z ≠ s.heap.objs.size := Nat.ne_of_lt (Heap.lt_size q1)
    refine wpAny_pyNext_zip_item apart q1 q2 q3 q4 q5 p1.isList p2.isList (x := u) (y := v) (by simpa using hu) (by simpa using hv) fun h' a1 a2 a3 a4 a5 a6 kk => ?_
    have fz := hf z (by simp)
    have hf4 : ∀ b ∈ [z, TO, i1, i2], FpOk X pins H b := fun b hb => hf b (by simp only [List.mem_cons, List.mem_nil_iff, or_false] at hb ⊢; rcases hb with e | e | e | e <;> simp [e])
    have I1 := Inv.movedPair (tk := s.toks) (x := xs[i]) (y := ys[i]) I hf4 (fun b o hb q => kk b o (fun e => hb (by simp [e])) (fun e => hb (by simp [e])) (fun e => hb (by simp [e])) (fun e => hb (by simp [e])) q) a5 rfl rfl ru rv
    refine ⟨_, rfl, wpAny_letOwnedTupleGo_zip a1 fun h2 hz2 sb => ?_⟩
    obtain ⟨f0, f1, f2, f3, f4, f5⟩ := fz
    refine ⟨.ref s.heap.objs.size, _, I1.turned (t' := s.toks) (it := z) (fun b o hb q => sb.extBut b o hb q) (by rw [upd_ne nz]; exact f0) f1 f3 f4 f5, rfl, ⟨_, _, _, rfl, hnew, rfl, List.getElem?_eq_getElem l1, List.getElem?_eq_getElem l2⟩, ?_, fun b hb => ?_⟩
    · exact ⟨hz2, sb.extBut _ _ apart.TIz (kk _ _ apart.TIz apart.TITO apart.TIi1 apart.TIi2 q2), ⟨_, _, sb.extBut _ _ apart.TOz a2⟩, a3.extBut sb.extBut apart.i1z, a4.extBut sb.extBut apart.i2z⟩
    · have hl : b < s.heap.objs.size := by
        obtain ⟨o4, r4, _⟩ := q4
        obtain ⟨o5, r5, _⟩ := q5
        simp only [List.mem_cons, List.mem_nil_iff, or_false] at hb
        rcases hb with e | e | e | e | e <;> subst e
        · exact Heap.lt_size q1
        · exact Heap.lt_size q2
        · exact Heap.lt_size q3
        · exact Heap.lt_size r4
        · exact Heap.lt_size r5
      rw [upd_ne (Nat.ne_of_lt hl)]
      exact (hf b hb).1
  done := by
    intro X hP hw hK hc i pins s σ H E I hf st hg
    subst hP hw hK
    obtain ⟨ha, hb, hl⟩ := hg
    obtain ⟨its1, rv1, p1, _⟩ := I.list ha
    obtain ⟨its2, rv2, p2, _⟩ := I.list hb
    have e1 := rv1.length
    have e2 := rv2.length
    have apart : ZipApart z TI TO i1 i2 a b := by
      obtain ⟨q1, q2, ⟨_, _, q3⟩, ⟨o4, q4, c4, _⟩, ⟨o5, q5, c5, _⟩⟩ := st
      obtain ⟨o6, q6, c6, _⟩ := p1.isList
      obtain ⟨o7, q7, c7, _⟩ := p2.isList
      refine ⟨ne_cls q2 q1 ?_, ne_cls q3 q1 ?_, ne_cls q4 q1 ?_, ne_cls q5 q1 ?_, hTT, ne_cls q2 q4 ?_, ne_cls q2 q5 ?_, ne_cls q3 q4 ?_, ne_cls q3 q5 ?_, h12, ne_cls q6 q1 ?_, ne_cls q6 q3 ?_, ne_cls q6 q4 ?_, ne_cls q6 q5 ?_, ne_cls q7 q1 ?_, ne_cls q7 q3 ?_, ne_cls q7 q4 ?_, ne_cls q7 q5 ?_⟩
      all_goals (try rw [c4]); (try rw [c5]); (try rw [c6]); (try rw [c7])
      all_goals (first | (show Value.type "tuple" ≠ Value.type "zip"; decide +kernel) | (show Value.type "list_iterator" ≠ Value.type "zip"; decide +kernel) | (show Value.type "tuple" ≠ Value.type "list_iterator"; decide +kernel) | (show Value.type "list" ≠ Value.type "zip"; decide +kernel) | (show Value.type "list" ≠ Value.type "tuple"; decide +kernel) | (show Value.type "list" ≠ Value.type "list_iterator"; decide +kernel))
    obtain ⟨q1, q2, ⟨c, d, q3⟩, q4, q5⟩ := st
    have hf4 : ∀ b ∈ [z, TO, i1, i2], FpOk X pins H b := fun b hb => hf b (by simp only [List.mem_cons, List.mem_nil_iff, or_false] at hb ⊢; rcases hb with e | e | e | e <;> simp [e])
    refine wpAny_pyNext_zip_end (I.ok.hd hc) apart q1 q2 q3 q4 q5 p1.isList p2.isList ?_ fun h' kk => ⟨rfl, Inv.moved (tk := s.toks) I hf4 fun b o hb q => kk b o (fun e => hb (by simp [e])) (fun e => hb (by simp [e])) (fun e => hb (by simp [e])) (fun e => hb (by simp [e])) q⟩
    rcases hl with e | e
    · exact .inl (by simp; omega)
    · exact .inr (by simp; omega)
  self := fun _ _ _ _ _ st h => wpAny_pyIter_zip st.1 h
section
variable {X : Cx} {elts : List Expr} {x1 : Nat} {tpos : Pos}
def iZip (K : PySem.W.Frag) (ta : TA) : TI := fun σ H R => ta σ H fun vs H1 => ∃ a b xs ys, vs = [.ref a, .ref b] ∧ SqL K H1 a xs ∧ SqL K H1 b ys ∧ R (Itz K a b xs ys) H1
theorem pi_zip {a b : Expr} {ta : TA} {p pos : Pos} (hg : Gl X "zip") (hm : X.mg "zip" = none) (ha : PA X [a, b] ta) (hs : starEach [a, b] X.env = [(false, eval a X.env), (false, eval b X.env)] := by rfl) (hs2 : starEach [b] X.env = [(false, eval b X.env)] := by rfl) :
    PI X (.Tuple elts x1 tpos) (.Call (.Name "zip" p) [a, b] [] pos) (iZip X.K ta) := by
  intro pins s σ H R I h
  refine Call_ (ld_blt I hg hm (show bootBuiltins "zip" = some (.type "zip") by decide +kernel) (PyProof.Rows.callWith_type1 (thn (ha pos pins s σ H _ I h) fun us s1 ⟨vs, H1, I1, r1, q1⟩ => ?_) (by rw [hs, hs2]) (by rw [hs2]; rfl)))
  obtain ⟨l1, l2, xs, ys, e, hq1, hq2, q⟩ := q1
  subst e
  obtain ⟨u, u2, rfl, ru, ru2⟩ := vals2 r1
  cases ru
  cases ru2
  obtain ⟨its1, rv1, p1, _⟩ := I1.list hq1
  obtain ⟨its2, rv2, p2, _⟩ := I1.list hq2
  refine call_zip_2 p1.isList p2.isList fun g a1 a2 a3 a4 a5 a6 kk => wpAny_pyIter_zip a1 ?_
  have I2 : Inv X pins σ H1 { s1 with heap := g } := I1.kept (t' := s1.toks) kk
  refine ⟨_, _, _, _, H1, rfl, I2, turn_zip l1 l2 (s1.heap.objs.size + 4) (s1.heap.objs.size + 2) (s1.heap.objs.size + 3) s1.heap.objs.size (s1.heap.objs.size + 1) xs ys (Nat.ne_of_lt (Nat.lt_succ_self _)) (Nat.ne_of_lt (Nat.lt_succ_self _)), ⟨a1, a2, ⟨_, _, a3⟩, a4, a5⟩, fun b hb => ?_, q⟩
  have hb' : s1.heap.objs.size ≤ b := by
    simp only [List.mem_cons, List.mem_nil_iff, or_false] at hb
    rcases hb with e | e | e | e | e <;> (rw [e]; first | exact Nat.le_refl _ | exact Nat.le_add_right _ _)
  exact I1.fpOk hb' (I1.hok.fresh hb')
end
end L2


set_option maxHeartbeats 4000000
namespace L2
open PySem PySem.Spec PyProof.Rows
/-- enumerate(l): the pairs of a list's items -/
def Itel (K : PySem.W.Frag) (a : Addr) (xs : List V) : It :=
  ⟨fun i H => SqL K H a xs ∧ i < xs.length, fun i H v H' => ∃ p x, v = .ref p ∧ H p = none ∧ H' = upd H p (.tup [.int (i : Nat), x]) ∧ xs[i]? = some x, fun i H => SqL K H a xs ∧ i = xs.length⟩
theorem turn_enumL {P : Program} {w : World} {K : PySem.W.Frag} {elts : List Expr} {x1 : Nat} {pos : Pos} (a e it : Addr) (xs : List V) : Turn P w K (.Tuple elts x1 pos) (Itel K a xs) [e, it] e (fun i h => (∃ old, IsEnum h e it i old) ∧ h.IsListIter it a i) where
  mem := by simp
  obj := fun i h st b hb => by
    obtain ⟨⟨old, he⟩, o, ho, _, hd⟩ := st
    rcases List.mem_cons.mp hb with z | z
    · subst z; exact ⟨_, he, fun v q => by cases q⟩
    · rw [List.mem_singleton.mp z]; exact ⟨o, ho, fun v q => by rw [hd] at q; cases q⟩
  keep := fun i h h' st k => ⟨by obtain ⟨old, he⟩ := st.1; exact ⟨old, k e (by simp) _ he⟩, st.2.at fun o q => k it (by simp) o q⟩
  item := by
    intro X hP hw hK hc i pins s σ H E I hf st hg
    subst hP hw hK
    obtain ⟨hq, hlt⟩ := hg
    obtain ⟨⟨old, he⟩, hit⟩ := st
    obtain ⟨its, rv, p, hz⟩ := I.list hq
    have hl := rv.length
    have hit0 := hit
    obtain ⟨oi, e1, e2, _⟩ := hit
    obtain ⟨oa, a1, a2, _⟩ := p.isList
    have nea : a ≠ it := ne_cls a1 e1 (by rw [a2, e2]; decide +kernel)
    have nee : e ≠ it := ne_cls he e1 (by rw [e2]; show Value.type "enumerate" ≠ _; decide +kernel)
    have neae : e ≠ a := ne_cls he a1 (by rw [a2]; show Value.type "enumerate" ≠ _; decide +kernel)
    refine thn (enum_step (Gx := fun x => xs[i]? = some x) I (Draws.list (A := X.A.in1) (I.ok.hd hc) it a nea its.toArray) he ⟨hit0, p.isList⟩ (by rw [List.size_toArray]; omega) nee (by simp [nee, neae]) hf (fun u hu => ?_)) fun r s1 ⟨u, hr, k⟩ => ⟨u, hr, thn k fun _ s2 ⟨x, q, z1, z2, z3, z4, z5, z6, z7, z8⟩ => ?_⟩
    · have hxi : xs[i]? = some xs[i] := List.getElem?_eq_getElem hlt
      obtain ⟨u', hu', ru'⟩ := rv.get hxi
      have : its.toArray[i]? = some u' := by simpa using hu'
      have hu2 : its.toArray[i]? = some u := hu
      rw [this] at hu2
      cases hu2
      exact ⟨xs[i], ru', hxi⟩
    · exact ⟨.ref q, _, z6, z1.symm ▸ rfl, ⟨q, x, rfl, z3, rfl, z2⟩, ⟨z7, z8.1⟩, fun b hb => by
        rcases List.mem_cons.mp hb with w | w
        · rw [w, upd_ne z4]; exact (hf e (by simp)).1
        · rw [List.mem_singleton.mp w, upd_ne z5]; exact (hf it (by simp)).1⟩
  done := by
    intro X hP hw hK hc i pins s σ H E I hf st hg
    subst hP hw hK
    obtain ⟨hq, rfl⟩ := hg
    obtain ⟨⟨old, he⟩, hit⟩ := st
    obtain ⟨its, rv, p, hz⟩ := I.list hq
    have hl := rv.length
    have hit0 := hit
    obtain ⟨oi, e1, e2, _⟩ := hit
    obtain ⟨oa, a1, a2, _⟩ := p.isList
    have nea : a ≠ it := ne_cls a1 e1 (by rw [a2, e2]; decide +kernel)
    obtain ⟨g0, g1, g2, g3, g4, g5⟩ := hf it (by simp)
    refine wpAny_pyNext_enum_endD (Draws.list (A := X.A.in1) (I.ok.hd hc) it a nea its.toArray) he ⟨by rw [List.size_toArray, ← hl]; exact hit0, p.isList⟩ fun h' eb => ⟨rfl, I.turned (t' := s.toks) (fun b o hb q => eb b o hb q) g0 g1 g3 g4 g5⟩
  self := fun _ _ _ _ _ st h => by obtain ⟨⟨old, he⟩, _⟩ := st; exact wpAny_pyIter_enum he h
section
variable {X : Cx} {elts : List Expr} {x1 : Nat} {tpos : Pos}
def iEnL (K : PySem.W.Frag) (ta : TA) : TI := fun σ H R => ta σ H fun vs H1 => ∃ a xs, vs = [.ref a] ∧ SqL K H1 a xs ∧ R (Itel K a xs) H1
theorem pi_enumL {a : Expr} {ta : TA} {p pos : Pos} (hg : Gl X "enumerate") (hm : X.mg "enumerate" = none) (ha : PA X [a] ta) (hs : starEach [a] X.env = [(false, eval a X.env)] := by rfl) : PI X (.Tuple elts x1 tpos) (.Call (.Name "enumerate" p) [a] [] pos) (iEnL X.K ta) := by
  intro pins s σ H R I h
  refine Call_ (ld_blt I hg hm boot_enumerate (PyProof.Rows.callWith_type1 (thn (ha pos pins s σ H _ I h) fun us s1 ⟨vs, H1, I1, r1, q1⟩ => ?_) hs rfl))
  obtain ⟨a, xs, e, hq, q⟩ := q1
  subst e
  obtain ⟨u, rfl, ru⟩ := vals1 r1
  cases ru
  obtain ⟨its, rv, pt, hz⟩ := I1.list hq
  refine call_enumerate_list pt.isList fun g he hi _ kp => wpAny_pyIter_enum he ?_
  have I2 : Inv X pins σ H1 { s1 with heap := g } := I1.kept (t' := s1.toks) kp
  refine ⟨s1.heap.objs.size + 1, [s1.heap.objs.size + 1, s1.heap.objs.size], _, _, H1, rfl, I2, turn_enumL a _ s1.heap.objs.size xs, ⟨⟨_, he⟩, hi⟩, fun b hb => ?_, q⟩
  have hb' : s1.heap.objs.size ≤ b := by
    rcases List.mem_cons.mp hb with z | z
    · rw [z]; exact Nat.le_succ _
    · rw [List.mem_singleton.mp z]; exact Nat.le_refl _
  exact I1.fpOk hb' (I1.hok.fresh hb')
end
end L2


set_option maxHeartbeats 4000000
namespace L2
open PySem PySem.Spec PyProof.Rows
/-- what isinstance asks of an exception's class -/
structure XCls (K : PySem.W.Frag) (C : Addr) : Prop where
  ga : PySem.W.findIn K (.ref C) "__getattribute__" = some (some (.builtin "BaseException.__getattribute__"))
  hk : PySem.W.findIn K (.ref C) "__getattr__" = some none
  cl : PySem.W.findIn K (.ref C) "__class__" = some (some (.builtin "object.__class__"))
  mo : PySem.W.mroIn K C (.type "object") = some true
  mb : PySem.W.mroIn K C (.type "BaseException") = some true
  is : (PySem.W.clsIn K C).isSome = true
section
variable {prog : Program} {w : World} {A : Around} {E : Value → Shared → Prop} {h : Heap} {g : Array GenState} {d : Drawn} {t : Nat} {os : OsState} {x C : Addr} {o : Obj} {K : PySem.W.Frag}
theorem xc_get {R : Result → Shared → Prop} (X : K.In h) (Z : XCls K C) (hx : h.get? x = some o) (hc : o.cls = .ref C) (hq : R (.ok (.ret (.ref C))) ⟨h, g, d, t, os⟩) :
    codeAny (model prog w) A (.call (.builtin "getset_descriptor.__get__") ⟨[.builtin "object.__class__", .ref x, .ref C], []⟩) R ⟨h, g, d, t, os⟩ := by
  have hY : (⟨h, g, d, t, os⟩ : Shared).TypeIs (.builtin "object.__class__") "getset_descriptor" := F.typeOf_object_class
  have LM : PySem.W.Looks (model prog w) h (isSubtype (.ref C) (.type (".".intercalate ("object.__class__".cutAt '.').dropLast))) true := by
    rw [F.owner_object_class]
    exact PySem.W.looks_mroIn X Z.mo
  refine codeAny_call_builtin F.slot_gs_get.plain F.entry_gs_get (F.slot_gs_get.check _ _ _ _ _ _ _ _ hY (F.args_gs_get _ _ _) ?_)
  repeat (any_goals (first | assumption | (with_reducible refine wpAny_loadPart_at hx ?_; rw [hc]) | (with_reducible refine LM.at ?_) | wp_step))
  refine ⟨Code.quiet_builtin _ (show _ by decide +kernel), codeAny_builtin F.entry_object_class ?_⟩
  repeat (any_goals (first | assumption | (with_reducible refine wpAny_loadPart_at hx ?_; rw [hc]) | wp_step))
theorem xc_entry {tk : Tok} {Q : Fin → Shared → Prop} (X : K.In h) (Z : XCls K C) (hx : h.get? x = some o) (hc : o.cls = .ref C) (hq : Q (.done (.ret (.ref C))) ⟨h, g, d, t, os⟩) :
    wpAny (model prog w) A (Builtin.«object.__getattribute__» ⟨[.ref x, .str "__class__" tk], []⟩) Q E ⟨h, g, d, t, os⟩ := by
  have hY : (⟨h, g, d, t, os⟩ : Shared).TypeIs (.builtin "object.__class__") "getset_descriptor" := F.typeOf_object_class
  have y5 := F.typeOf_object_class
  have y6 := F.slot_gs_get.lookup
  have y7 := F.slot_gs_set.lookup
  have LC := PySem.W.looks_findIn (M := model prog w) X Z.cl
  repeat (any_goals (first | assumption | (with_reducible refine wpAny_loadPart_at hx ?_; rw [hc]) | (with_reducible refine LC.at ?_) | wp_step))
  refine xc_get X Z hx hc ?_
  repeat (any_goals (first | assumption | wp_step))
theorem xc_check {M : Model} {nameV : Value} {Q : Unit → Shared → Prop} (X : K.In h) (Z : XCls K C) (hx : h.get? x = some o) (hc : o.cls = .ref C) (hq : Q () ⟨h, g, d, t, os⟩) :
    wpAny M A (checkBuiltinCall "BaseException.__getattribute__" ⟨[.ref x, nameV], []⟩) Q E ⟨h, g, d, t, os⟩ := by
  have h1 : builtinKind "BaseException.__getattribute__" = some .slot := by decide +kernel
  have h2 : splitId "BaseException.__getattribute__" = some ("BaseException", "__getattribute__") := by decide +kernel
  have LB := PySem.W.looks_mroIn (M := M) X Z.mb
  have h3 := F.args_bexc_ga (.ref x) nameV
  simp only [checkBuiltinCall, h1, h2]
  refine wpAny_bind ?_
  unfold isInstance
  repeat (first | (with_reducible refine wpAny_loadPart_at hx ?_; rw [hc]) | (with_reducible refine LB.at ?_) | wp_step)
  exact hq
theorem xc_by {tk : Tok} {Q : Value → Shared → Prop} (X : K.In h) (Z : XCls K C) (hx : h.get? x = some o) (hc : o.cls = .ref C) (hq : Q (.ref C) ⟨h, g, d, t, os⟩) :
    wpAny (model prog w) A (getAttrBy (.ref x) (.str "__class__" tk) false) Q E ⟨h, g, d, t, os⟩ := by
  have y3 := F.excAttr_ValueError.ga.bind (.ref x)
  have y4 : (Value.builtin "BaseException.__getattribute__" == Value.builtin "object.__getattribute__") = false := by decide +kernel
  have y5 : (onTheHeap (Value.ref C) && Value.builtin "BaseException.__getattribute__" == Value.builtin "object.__getattribute__") = false := by rw [y4]; rfl
  have LG := PySem.W.looks_findIn (M := model prog w) X Z.ga
  have LH := PySem.W.looks_findIn (M := model prog w) X Z.hk
  repeat (any_goals (first | assumption | (with_reducible refine wpAny_loadPart_at hx ?_; rw [hc]) | (with_reducible refine LG.at ?_) | (with_reducible refine LH.at ?_) | wp_step))
  refine codeAny_call_builtin F.excAttr_ValueError.ga.plain F.entry_bexc_ga (xc_check X Z hx hc (xc_entry X Z hx hc ?_))
  repeat (any_goals (first | assumption | wp_step))
theorem xc_attr {Q : Option Value → Shared → Prop} (X : K.In h) (Z : XCls K C) (hx : h.get? x = some o) (hc : o.cls = .ref C) (hq : Q (some (.ref C)) ⟨h, g, d, t + 1, os⟩) :
    wpAny (model prog w) A (getAttr? (.ref x) "__class__") Q E ⟨h, g, d, t, os⟩ := by
  unfold getAttr? getAttrBy?
  repeat (any_goals (first | assumption | with_reducible apply xc_by X Z hx hc | wp_step))
end
theorem kitx_exc {K : PySem.W.Frag} {x C : Addr} (Z : XCls K C) : PySem.W.KitX K (.ref x) (.ref C) (fun h => ∃ ob, h.get? x = some ob ∧ ob.cls = .ref C) where
  ty := fun M h _ p => by
    obtain ⟨ob, h1, h2⟩ := p
    exact h2 ▸ (PySem.W.Looks.ld h1).andThen .now
  it := fun M h X _ => by
    obtain ⟨cd, hcd⟩ := Option.isSome_iff_exists.mp Z.is
    unfold PySem.W.clsIn at hcd
    split at hcd
    · rename_i c1 d1 cd1 sl1 ho
      intro A' Q' E' s' k q
      unfold isType loadHead
      exact wpAny_bind (wpAny_loadPart (k _ _ (X _ _ ho)) (wpAny_pure q))
    · cases hcd
  ne := fun h tp dd its n sl X htp => by
    obtain ⟨cd, hcd⟩ := Option.isSome_iff_exists.mp Z.is
    refine Bool.eq_false_iff.mpr fun q => ?_
    have e : C = tp := Value.ref.inj (beq_iff_eq.mp q)
    subst e
    unfold PySem.W.clsIn at hcd
    split at hcd
    · rename_i c1 d1 cd1 sl1 ho
      have z := (X _ _ ho).symm.trans htp
      cases z
    · cases hcd
  ca := fun {prog w A E Q s} X p k => by
    obtain ⟨ob, h1, h2⟩ := p
    obtain ⟨hh, gg, dd, tt, oo⟩ := s
    exact xc_attr X Z h1 h2 k
section
variable {X : Cx}
/-- isinstance(an exception, an own class) -/
theorem call_isxC : CallR X (.builtin "isinstance") (fun xs H Q => ∃ (a C D : Addr) (b : Bool), xs = [.ref a, .ref D] ∧ H a = some (excO a C) ∧ XCls X.K C ∧ PySem.W.kitOne X.K (.ref C) (.ref D) = some b ∧ Q (.bl b) H) := by
  intro pins s σ H xs us Q I r h
  obtain ⟨a, C, D, b, rfl, ha, Z, e, q⟩ := h
  obtain ⟨u, u2, rfl, ru, ru2⟩ := vals2 r
  cases ru
  cases ru2
  obtain ⟨⟨ob, vs, h1, h2, _⟩, _⟩ := I.hok _ _ ha
  exact PySem.W.kia_one (kitx_exc Z) I.kIn ⟨ob, h1, h2⟩ e (fun z => nomatch z) fun tk => ⟨.bl b, H, I.tok tk, rfl, q⟩
/-- isinstance(an exception, a class of Python's) -/
theorem call_isxT : CallR X (.builtin "isinstance") (fun xs H Q => ∃ (a C : Addr) (n : String) (b : Bool), xs = [.ref a, .ty n] ∧ H a = some (excO a C) ∧ XCls X.K C ∧ PySem.W.kitOne X.K (.ref C) (.type n) = some b ∧ Q (.bl b) H) := by
  intro pins s σ H xs us Q I r h
  obtain ⟨a, C, n, b, rfl, ha, Z, e, q⟩ := h
  obtain ⟨u, u2, rfl, ru, ru2⟩ := vals2 r
  cases ru
  cases ru2
  obtain ⟨⟨ob, vs, h1, h2, _⟩, _⟩ := I.hok _ _ ha
  exact PySem.W.kia_one (kitx_exc Z) I.kIn ⟨ob, h1, h2⟩ e (fun z => nomatch z) fun tk => ⟨.bl b, H, I.tok tk, rfl, q⟩
theorem pe_globR {x : Str} {a : Addr} {pos : Pos} (hg : Gl X x) (hm : X.mg x = some (.ref a)) (hd : (x == ("__debug__" : Str)) = false := by decide) : PE X (.Name x pos) (tC (.ref a)) := pe_glob hg hm rfl hd
theorem pe_tyValueError {pos : Pos} (hg : Gl X "ValueError") (hm : X.mg "ValueError" = none) : PE X (.Name "ValueError" pos) (tC (.ty "ValueError")) := pe_bltn hg hm (u := .type "ValueError") (by decide +kernel) rfl
end
end L2


set_option maxHeartbeats 4000000
namespace L2
open PySem PySem.Spec PyProof.Rows
section
variable {X : Cx}
def isB (b : Bool) : Value → Bool
  | .bool c => c == b
  | _ => false
theorem bools_of {bs : List Bool} {its : List Value} (r : Vals (bs.map V.bl) its) : its = bs.map Value.bool := by
  induction bs generalizing its with
  | nil => cases r; rfl
  | cons c t ih =>
    cases r with
    | cons r1 r2 =>
      cases r1
      rw [List.map_cons, ← ih r2]
theorem isB_at {A : Around} {s : Shared} {bs : List Bool} {b : Bool} : ∀ y ∈ (bs.map Value.bool).toArray, SeqAt.EqAt A s y (.bool b) (isB b y) := fun y hy => by
  obtain ⟨c, _, rfl⟩ := List.mem_map.mp (by simpa using hy : y ∈ bs.map Value.bool)
  exact SeqAt.EqAt.bool_bool c b
theorem mt_countB : MtM X "list.count" (fun x vs H Q => ∃ (l : Addr) (bs : List Bool) (b : Bool), x = .ref l ∧ vs = [.bl b] ∧ H l = some (.lst (bs.map V.bl)) ∧ Q (.int ((bs.countP (fun c => c == b) : Nat) : Int)) H) := by
  intro pins s σ H x vs v us Q I rx rv h
  obtain ⟨l, bs, b, rfl, rfl, hH, q⟩ := h
  cases rx
  obtain ⟨u, rfl, ru⟩ := rv.one
  cases ru
  obtain ⟨z, its, n, r, hl, e⟩ := I.lstM hH
  have hi := bools_of r
  subst hi
  refine call_meets F.slot_list_count ⟨_, e, rfl⟩ F.entry_list_count (F.args_list_count_2 _ _) (SeqAt.list_countAt l (bs.map Value.bool).toArray n none #[] (.bool b) (isB b)) ⟨e, isB_at, ?_⟩
  refine ⟨.int _, H, I.tok _, ⟨_, rfl⟩, ?_⟩
  have e2 : List.countP (isB b) (bs.map Value.bool) = bs.countP (fun c => c == b) := by
    rw [List.countP_map]
    rfl
  show Q (.int ((List.countP (isB b) (bs.map Value.bool) : Nat) : Int)) H
  rw [e2]
  exact q
theorem mt_indexB : MtM X "list.index" (fun x vs H Q => ∃ (l : Addr) (bs : List Bool) (b : Bool) (j : Nat), x = .ref l ∧ vs = [.bl b] ∧ H l = some (.lst (bs.map V.bl)) ∧ bs[j]? = some b ∧ j < 1000 ∧ (∀ m, m < j → bs[m]? = some (!b)) ∧ Q (.int (j : Nat)) H) := by
  intro pins s σ H x vs v us Q I rx rv h
  obtain ⟨l, bs, b, j, rfl, rfl, hH, hj, hj2, hm, q⟩ := h
  cases rx
  obtain ⟨u, rfl, ru⟩ := rv.one
  cases ru
  obtain ⟨z, its, n, r, hl, e⟩ := I.lstM hH
  have hi := bools_of r
  subst hi
  obtain ⟨hlt, hjb⟩ := List.getElem?_eq_some_iff.mp hj
  refine call_meets F.slot_list_index ⟨_, e, rfl⟩ F.entry_list_index (F.args_list_index_2 _ _) (SeqAt.list_indexAt l (bs.map Value.bool).toArray n none #[] (.bool b) (isB b) j (by simpa using hlt) (by omega) (by simp [isB, hjb]) (fun m hm1 hm2 => ?_)) ⟨e, isB_at, ?_⟩
  · obtain ⟨h1, h2⟩ := List.getElem?_eq_some_iff.mp (hm m hm2)
    simp [isB, h2]
  · exact ⟨.int _, H, I.tok _, ⟨_, rfl⟩, q⟩
end
end L2


set_option maxHeartbeats 4000000
namespace Cw
open PySem L2
theorem cut_from (xs : List V) (k : Nat) (h : k ≤ xs.length) : cutV xs (some (k : Int)) none = xs.drop k := by
  unfold cutV
  rw [HT.sIx_nat, HT.sIx_none, Nat.min_eq_left h]
  exact List.take_of_length_le (by rw [List.length_drop]; exact Nat.le_refl _)
theorem cut_one (xs : List V) : cutV xs (some 1) none = xs.drop 1 := by
  cases xs with
  | nil => rfl
  | cons x t => exact cut_from (x :: t) 1 (by simp)
theorem spots_of {H : Hp} {rows : List Str} : ∀ {vs : List V} {os : List (Option (Int × Int))}, Paired (El H) vs os → os.all (openO rows) = true → IsSps H vs (os.map fun o => o.getD (0, 0)) ∧ ∀ q ∈ os.map fun o => o.getD (0, 0), openB rows q.1 q.2 = true
  | _, _, .nil, _ => ⟨.nil, fun q h => by cases h⟩
  | _, _, .cons r t, h => by
    rw [List.all_cons, Bool.and_eq_true] at h
    obtain ⟨i1, i2⟩ := spots_of t h.2
    cases r with
    | @spot p r' k' e =>
      refine ⟨.cons ⟨p, rfl, e⟩ i1, fun q hq => ?_⟩
      rcases List.mem_cons.mp hq with rfl | hq
      · exact h.1
      · exact i2 q hq
    | non => exact absurd h.1 Bool.false_ne_true
    | one e => exact absurd h.1 Bool.false_ne_true
    | txt e => exact absurd h.1 Bool.false_ne_true
    | lst e => exact absurd h.1 Bool.false_ne_true
theorem els_of {H : Hp} : ∀ {vs : List V} {qs : List (Int × Int)}, IsSps H vs qs → Paired (El H) vs (qs.map some)
  | _, _, .nil => .nil
  | _, _, .cons r t => by
    obtain ⟨p, rfl, e⟩ := r
    exact .cons (.spot e) (els_of t)
end Cw
namespace K03
open PySem L2 Cw
inductive ThB (rows : List Str) (H : Hp) : V → Bool → Prop where
  | non : ThB rows H .non false
  | tup {p : Addr} {xs : List V} (e : H p = some (.tup xs)) : ThB rows H (.ref p) false
  | lst {p : Addr} {xs : List V} {os : List (Option (Int × Int))} (e : H p = some (.lst xs)) (h : Paired (El H) xs os) (hl : xs.length ≤ 100) : ThB rows H (.ref p) (!os.isEmpty && os.all (openO rows))
abbrev sLst : Stmt := top 19
abbrev sIsWay : Stmt := top 20
abbrev sAlong : Stmt := top 21
abbrev sNeedW : Stmt := top 22
abbrev sCostOf : Stmt := top 23
structure TxW (mg : Str → Option Value) : Prop where
  zip : mg "zip" = none
  list : mg "list" = none
  all : mg "all" = none
  sum : mg "sum" = none
def spAlong : Sp := fun vs H Q _ => ∃ (a pw l : Addr) (rows : List Str) (c : Nat) (sl : Bool) (cl up : Int) (xs : List V) (qs : List (Int × Int)), vs = [.ref a, .ref pw, .ref l] ∧ FloorAt H a rows c ∧ H pw = some (.tup [.bl sl, .int cl, .int up]) ∧ 0 ≤ up ∧ up ≤ 3 ∧
  H l = some (.lst xs) ∧ IsSps H xs qs ∧ xs.length ≤ 100 ∧ (∀ q ∈ qs, openB rows q.1 q.2 = true) ∧ ∀ p H', Same H H' → H' p = some (.lst (costVs rows sl cl up qs (qs.length - 1))) → Q (.ref p) H'
def spLst : Sp := fun vs H Q _ => ∃ (a : Addr) (x : V) (rows : List Str) (c : Nat) (b : Bool), vs = [.ref a, x] ∧ FloorAt H a rows c ∧ ThB rows H x b ∧ ∀ H', Same H H' → Q (.bl b) H'
def spIsWay : Sp := fun vs H Q _ => ∃ (a pw : Addr) (x : V) (rows : List Str) (c : Nat) (sl : Bool) (cl up : Int) (d : Option Int), vs = [.ref a, .ref pw, x] ∧ FloorAt H a rows c ∧ H pw = some (.tup [.bl sl, .int cl, .int up]) ∧ 0 ≤ up ∧ up ≤ 3 ∧
  ThIs rows sl cl up H x d ∧ ∀ H', Same H H' → Q (.bl d.isSome) H'
section
variable {P : Program} {w : World} {K : PySem.W.Frag} {mg : Str → Option Value} {base : Heap}
theorem scAl : FnScope ["floor", "walker", "spots"] ["floor", "walker", "spots"] (defScope sAlong) := ⟨rfl, rfl, rfl, by decide +kernel, rfl, by decide +kernel, by decide +kernel⟩
theorem ok_along {f fC : Addr} {fd fdC : FuncData} (F : Fun K "costs_along" "costs_along" sAlong f fd) (T : TxW mg) (GC : Call1 P w K mg base "step_cost" 6 ["floor", "walker", "one", "other"] spCost fC fdC) : FnOk P w K mg base CX0 7 f fd ["floor", "walker", "spots"] spAlong := by
  refine F.ok scAl (fun vs H Q E h => ?_) (fun cdv A outer s H vs Q E hr h => ?_)
  · obtain ⟨a, pw, l, rows, c, sl, cl, up, xs, qs, rfl, _⟩ := h
    rfl
  · obtain ⟨a, pw, l, rows, c, sl, cl, up, xs, qs, rfl, hf, hw, u0, u3, hl, hv, hlen, hop, q⟩ := h
    refine ⟨_, pss_one (ps_ret (pe_comp (g := gTup K 2 (gCons (gName 0) (gCons (gName 1) gNil))) (xs := ["one", "other"]) (ys := ["walker", "floor"]) (is := [1, 0]) rfl ⟨rfl, rfl, rfl, by decide +kernel, by decide +kernel, rfl, rfl, rfl⟩
      (pi_zip (by rfl) T.zip (pa_cons (pv 2) (pa_cons (pe_slice sl_list (pv 2) (po_some pe_int) po_none) pa_nil)))
      (fun _ _ _ _ => pg_tup (n := 2) rfl (pgs_cons (pg_name (i := 0) (show List.Nodup (["one", "other", "walker", "floor"] : List Str) by decide +kernel) rfl (Or.inl rfl) (.inr rfl)) (pgs_cons (pg_name (i := 1) (show List.Nodup (["one", "other", "walker", "floor"] : List Str) by decide +kernel) rfl (Or.inl rfl) (.inr rfl)) pgs_nil)))
      (fun _ _ _ _ => pe_call GC.ok hr (by rfl) GC.m GC.kp GC.b .nil pass0 (pa_cons (pv 3) (pa_cons (pv 2) (pa_cons (pv 0) (pa_cons (pv 1) pa_nil))))))), ?_⟩
    have hql := hv.length
    refine ⟨_, rfl, _, rfl, 1, rfl, l, xs, rfl, SqL.of hl, fun l2 h2 => ?_⟩
    rw [cut_one]
    have s1 := same_upd (o := .lst (xs.drop 1)) h2
    refine ⟨l, l2, xs, xs.drop 1, rfl, SqL.of (s1 _ _ hl), SqL.of upd_same, xs.length, fun i ys σ' G => i ≤ xs.length ∧ (∃ v0 v1, σ' = [v0, v1, some (.ref pw), some (.ref a)]) ∧ Same H G ∧ G l2 = some (.lst (xs.drop 1)) ∧ (i ≤ xs.length - 1 ∧ ys = costVs rows sl cl up qs i), ⟨Nat.zero_le _, ⟨none, none, rfl⟩, s1, upd_same, Nat.zero_le _, rfl⟩, ?_⟩
    rintro i ys σ' G ⟨hi, ⟨v0, v1, rfl⟩, sG, hG2, hi1, rfl⟩
    refine ⟨by rw [costVs_len]; exact Nat.lt_of_le_of_lt (show i ≤ 100 by omega) (by decide), ?_⟩
    by_cases hlt : i < xs.length - 1
    · refine .inr ⟨⟨SqL.of (sG _ _ hl), SqL.of hG2, by omega, by rw [List.length_drop]; omega⟩, by omega, fun x G' y => ?_⟩
      obtain ⟨p, x1, x2, rfl, hp, rfl, hx1, hx2⟩ := y
      rw [List.getElem?_drop] at hx2
      have s2 := same_upd (o := .tup [x1, x2]) hp
      have hvG := hv.same (sG.trans s2)
      obtain ⟨⟨r1, k1⟩, hq1, p1, rfl, hp1⟩ := paired_get hvG hx1
      obtain ⟨⟨r2, k2⟩, hq2, p2, rfl, hp2⟩ := paired_get hvG hx2
      rw [Nat.add_comm] at hq2
      refine ⟨p, _, rfl, SqT.of upd_same, rfl, _, _, rfl, _, _, rfl, rfl, ?_⟩
      refine ⟨_, rfl, _, rfl, _, rfl, _, rfl, a, pw, p1, p2, rows, c, sl, cl, up, r1, k1, r2, k2, rfl, hf.same (sG.trans s2), (sG.trans s2) _ _ hw, u0, u3, hp1, hp2, hop (r1, k1) (List.mem_of_getElem? hq1), hop (r2, k2) (List.mem_of_getElem? hq2), fun G3 s3 => ?_⟩
      have ec : costAt rows sl cl up qs i = costB rows sl cl up r1 k1 r2 k2 := by
        unfold costAt
        rw [List.getD_eq_getElem?_getD, List.getD_eq_getElem?_getD, hq1, hq2]
        rfl
      refine ⟨by omega, ⟨_, _, rfl⟩, (sG.trans s2).trans s3, s3 _ _ (s2 _ _ hG2), by omega, ?_⟩
      rw [costVs_succ, ec]
    · have e : i = qs.length - 1 := by omega
      refine .inl ⟨⟨SqL.of (sG _ _ hl), SqL.of hG2, .inr (by rw [List.length_drop]; omega)⟩, fun p hp => ?_⟩
      subst e
      exact q p _ (sG.trans (same_upd hp)) upd_same
theorem scLs : FnScope ["floor", "thing"] ["floor", "thing"] (defScope sLst) := ⟨rfl, rfl, rfl, by decide +kernel, rfl, by decide +kernel, by decide +kernel⟩
theorem ok_lst {f fO : Addr} {fd fdO : FuncData} (F : Fun K "is_list_of_open_spots" "is_list_of_open_spots" sLst f fd) (T : Tx mg) (TW : TxW mg) (GO : Call1 P w K mg base "is_open" 3 ["floor", "thing"] spOpen fO fdO) :
    FnOk P w K mg base CX0 4 f fd ["floor", "thing"] spLst := by
  refine F.ok scLs (fun vs H Q E h => ?_) (fun cdv A outer s H vs Q E hr h => ?_)
  · obtain ⟨a, x, rows, c, b, rfl, _⟩ := h
    rfl
  · obtain ⟨a, x, rows, c, b, rfl, hf, hx, q⟩ := h
    refine ⟨_, pss_cons (ps_if (pw_or (pt_not (pt_val (pe_callB call_isinst (by rfl) T.isinstance (by decide +kernel) (pa_cons (pv 1) (pa_cons (pe_tyList (by rfl) TW.list) pa_nil)))))
        (pw_or1 (pt_cmpR op_eq (pe_callB call_len_seq (by rfl) T.len PySem.boot_len (pa_cons (pv 1) pa_nil)) pe_int (nomark _)))).pt
        (pss_one (ps_ret pe_bl)) pss_nil)
      (pss_one (ps_ret (pe_callB (call_all rfl) (by rfl) TW.all (by decide +kernel) (pa_cons
          (pe_comp (xs := ["spot"]) (ys := ["floor"]) (is := [0]) rfl ⟨rfl, rfl, rfl, by decide +kernel, by decide +kernel, rfl, rfl, rfl⟩ (pi_list (pv 1))
            (fun _ _ _ _ => pg_name (i := 0) (show List.Nodup (["spot", "floor"] : List Str) by decide +kernel) rfl (Or.inl rfl) (.inr rfl))
            (fun _ _ _ _ => pe_call GO.ok hr (by rfl) GO.m GO.kp GO.b .nil pass0 (pa_cons (pv 1) (pa_cons (pv 0) pa_nil)))) pa_nil)))), ?_⟩
    cases hx with
    | non =>
      obtain ⟨t1, y1, e1⟩ := ty_listN (K := K) (H := H)
      exact ⟨_, rfl, _, _, _, _, rfl, y1, e1, _, rfl, iteT (iteT (q H (Same.refl H)))⟩
    | tup e =>
      obtain ⟨t1, y1, e1⟩ := ty_listT (K := K) e
      exact ⟨_, rfl, _, _, _, _, rfl, y1, e1, _, rfl, iteT (iteT (q H (Same.refl H)))⟩
    | @lst p xs os e hv hlen =>
      obtain ⟨t1, y1, e1⟩ := ty_listL (K := K) e
      have hol := paired_len hv
      refine ⟨_, rfl, _, _, _, _, rfl, y1, e1, _, rfl, iteF ⟨_, rfl, p, xs, rfl, .inl (SqL.of e), rfl, _, rfl, ?_⟩⟩
      refine ite2 (fun h0 => ?_) (fun h0 => ?_)
      · have h0' : xs.length = 0 := by have := of_decide_eq_true h0; injection this with z; omega
        have hos : os = [] := List.length_eq_zero_iff.mp (by omega)
        rw [hos] at q
        exact q H (Same.refl H)
      · have h0' : xs.length ≠ 0 := fun z => h0 (decide_eq_true (by rw [z]; rfl))
        refine ⟨_, rfl, p, rfl, ⟨xs, SqL.of e⟩, xs.length, fun i ys σ' G => i ≤ xs.length ∧ (∃ v0, σ' = [v0, some (.ref a)]) ∧ Same H G ∧ ys = ((os.take i).map fun o => V.bl (openO rows o)), ⟨Nat.zero_le _, ⟨none, rfl⟩, Same.refl _, rfl⟩, ?_⟩
        rintro i ys σ' G ⟨hi, ⟨v0, rfl⟩, sG, rfl⟩
        refine ⟨by rw [List.length_map, List.length_take]; exact Nat.lt_of_le_of_lt (show min i os.length ≤ 100 by omega) (by decide), ?_⟩
        by_cases hlt : i < xs.length
        · refine .inr ⟨⟨xs, xs[i], SqL.of (sG _ _ e), List.getElem?_eq_getElem hlt⟩, hlt, fun v G' y => ?_⟩
          obtain ⟨rfl, hy⟩ := y
          have hv' := hy xs (SqL.of (sG _ _ e))
          obtain ⟨o, ho, hel⟩ := paired_at hv hv'
          refine ⟨_, rfl, _, rfl, a, v, rows, c, _, rfl, hf.same sG, (hel.same sG).opens, ?_⟩
          refine ⟨hlt, ⟨_, rfl⟩, sG, ?_⟩
          rw [List.take_add_one, ho, List.map_append]
          rfl
        · have ei : i = xs.length := by omega
          subst ei
          refine .inl ⟨⟨xs, SqL.of (sG _ _ e), Nat.le_refl _⟩, fun pl hpl => ?_⟩
          have s2 := sG.trans (same_upd (o := .lst ((os.take xs.length).map fun o => V.bl (openO rows o))) hpl)
          rw [List.take_of_length_le (show os.length ≤ xs.length by omega)] at s2 ⊢
          refine ⟨pl, os.map (openO rows), rfl, SqL.of (by rw [upd_same, List.map_map]; rfl), ?_⟩
          have hall : (os.map (openO rows)).all id = os.all (openO rows) := by rw [List.all_map]; rfl
          rw [hall]
          have hne : os.isEmpty = false := by
            cases os with
            | nil => exact absurd hol h0'
            | cons _ _ => rfl
          have q' := q _ s2
          rw [hne, Bool.not_false, Bool.true_and] at q'
          exact q'
theorem scIW : FnScope ["floor", "walker", "thing"] ["floor", "walker", "thing"] (defScope sIsWay) := ⟨rfl, rfl, rfl, by decide +kernel, rfl, by decide +kernel, by decide +kernel⟩
theorem ok_isway {f fL fA : Addr} {fd fdL fdA : FuncData} (F : Fun K "is_way" "is_way" sIsWay f fd) (GL : Call1 P w K mg base "is_list_of_open_spots" 4 ["floor", "thing"] spLst fL fdL) (GA : Call1 P w K mg base "costs_along" 7 ["floor", "walker", "spots"] spAlong fA fdA) :
    FnOk P w K mg base CX0 8 f fd ["floor", "walker", "thing"] spIsWay := by
  refine F.ok scIW (fun vs H Q E h => ?_) (fun cdv A outer s H vs Q E hr h => ?_)
  · obtain ⟨a, pw, x, rows, c, sl, cl, up, d, rfl, _⟩ := h
    rfl
  · obtain ⟨a, pw, x, rows, c, sl, cl, up, d, rfl, hf, hw, u0, u3, hx, q⟩ := h
    have hr4 : Room 4 _ := hr.mono (by decide)
    refine ⟨_, pss_one (ps_ret (pe_and (pe_call GL.ok hr4 (by rfl) GL.m GL.kp GL.b .nil pass0 (pa_cons (pv 0) (pa_cons (pv 2) pa_nil)))
      (pe_one (pe_cmpR op_notIn_seq pe_non (pe_call GA.ok hr (by rfl) GA.m GA.kp GA.b .nil pass0 (pa_cons (pv 0) (pa_cons (pv 1) (pa_cons (pv 2) pa_nil)))) (by rfl))))), ?_⟩
    cases hx with
    | non => exact ⟨_, rfl, _, rfl, a, _, rows, c, false, rfl, hf, .non, fun G s => ⟨_, rfl, iteF (q G s)⟩⟩
    | tup e => exact ⟨_, rfl, _, rfl, a, _, rows, c, false, rfl, hf, .tup e, fun G s => ⟨_, rfl, iteF (q G s)⟩⟩
    | @lst p xs os _ e hv hlen hd =>
      refine ⟨_, rfl, _, rfl, a, _, rows, c, _, rfl, hf, .lst e hv hlen, fun G s2 => ⟨_, rfl, ?_⟩⟩
      cases hb : (!os.isEmpty && os.all (openO rows)) with
      | false =>
        refine iteF ?_
        have ed : d = none := by
          rw [hd]
          unfold sumO
          refine if_neg fun z => ?_
          rw [z.1, z.2] at hb
          exact Bool.false_ne_true hb.symm
        rw [ed] at q
        exact q _ s2
      | true =>
        refine iteT ?_
        rw [Bool.and_eq_true, Bool.not_eq_true'] at hb
        obtain ⟨g1, g2⟩ := spots_of hv hb.2
        have ed : d = sumTo rows sl cl up (os.map fun o => o.getD (0, 0)) (os.length - 1) := by rw [hd]; unfold sumO; rw [if_pos hb]
        refine ⟨_, rfl, _, rfl, _, rfl, a, pw, p, rows, c, sl, cl, up, xs, _, rfl, hf.same s2, s2 _ _ hw, u0, u3, s2 _ _ e, g1.same s2, hlen, g2, fun pc G3 s3 hpc => ?_⟩
        refine ⟨pc, _, rfl, .inl (SqL.of hpc), rfl, costVs_flat _, ?_⟩
        show Q (.bl (!inV .non (costVs rows sl cl up (os.map fun o => o.getD (0, 0)) ((os.map fun o => o.getD (0, 0)).length - 1)))) G3
        rw [sumTo_in, Bool.not_not, List.length_map, ← ed]
        exact q _ (s2.trans s3)
end
end K03


set_option maxHeartbeats 4000000
namespace L2
open PySem PySem.Spec PyProof.Rows
theorem Room.unitsN {k n : Nat} {A : Around} (r : Room k A) (h : n ≤ 200) : A.units + n < cLine := by have := r.un; omega
theorem for_enumL {K : PySem.W.Frag} {a : Addr} {xs : List V} {g : TG} {tb : TS} {D : Ends} {σ : St} {H : Hp} (Pv : Nat → St → Hp → Prop) (h0 : Pv 0 σ H) (hl : ∀ i σ H, i ≤ xs.length → Pv i σ H → SqL K H a xs)
    (hs : ∀ i x σ H p, xs[i]? = some x → Pv i σ H → H p = none → g (.ref p) σ (upd H p (.tup [.int (i : Nat), x])) fun σ2 H2 => tb { D with nx := Pv (i + 1), ct := Pv (i + 1), bk := D.nx } σ2 H2) (hd : ∀ σ H, Pv xs.length σ H → D.nx σ H) : ForR (Itel K a xs) g tb D σ H := by
  refine ⟨fun i m σ H => m = xs.length - i ∧ i ≤ xs.length ∧ Pv i σ H, ⟨xs.length, by simp, Nat.zero_le _, h0⟩, ?_⟩
  rintro i m σ H ⟨rfl, hi, p⟩
  have q := hl i σ H hi p
  by_cases hlt : i < xs.length
  · refine .inr ⟨⟨q, hlt⟩, Pv (i + 1), fun σ' H' p' => ⟨xs.length - (i + 1), by omega, rfl, hlt, p'⟩, fun v H' y => ?_⟩
    obtain ⟨pp, x, rfl, hn, rfl, hx⟩ := y
    exact hs i x σ H pp hx p hn
  · have e : i = xs.length := by omega
    subst e
    exact .inl ⟨⟨q, rfl⟩, hd σ H p⟩
end L2
namespace Cw
open PySem L2
theorem mem_openRowQ {rows : List Str} {i j : Nat} {r k : Int} : (r, k) ∈ openRowQ rows i j ↔ r = (i : Int) ∧ 0 ≤ k ∧ k < j ∧ openB rows r k = true := by
  unfold openRowQ
  rw [List.mem_filter, List.mem_map]
  constructor
  · rintro ⟨⟨n, hn, e⟩, ho⟩
    injection e with e1 e2
    have := List.mem_range.mp hn
    exact ⟨e1.symm, by omega, by omega, ho⟩
  · rintro ⟨e1, h0, h1, ho⟩
    refine ⟨⟨k.toNat, List.mem_range.mpr (by omega), ?_⟩, ho⟩
    rw [e1, Int.toNat_of_nonneg h0]
theorem mem_openQ {rows : List Str} {c : Nat} {r k : Int} : ∀ n : Nat, (r, k) ∈ openQ rows c n ↔ 0 ≤ r ∧ r < n ∧ 0 ≤ k ∧ k < c ∧ openB rows r k = true
  | 0 => by
    constructor
    · intro h; cases h
    · rintro ⟨h0, h1, _⟩; omega
  | n + 1 => by
    unfold openQ
    rw [List.mem_append, mem_openQ n, mem_openRowQ]
    constructor
    · rintro (⟨h0, h1, h2⟩ | ⟨h0, h1, h2⟩)
      · exact ⟨h0, by omega, h2⟩
      · exact ⟨by omega, by omega, h1, h2⟩
    · rintro ⟨h0, h1, h2⟩
      by_cases e : r = (n : Int)
      · exact .inr ⟨e, h2⟩
      · exact .inl ⟨h0, by omega, h2⟩
theorem mem_opens {rows : List Str} {c m : Nat} (h : FlOk rows c m) {r k : Int} : (r, k) ∈ openQ rows c rows.length ↔ openB rows r k = true := by
  rw [mem_openQ]
  constructor
  · rintro ⟨_, _, _, _, ho⟩; exact ho
  · intro ho
    obtain ⟨h0, h1, h2, h3⟩ := onB_true (openB_on h ho)
    exact ⟨h0, h1, h2, h3, ho⟩
theorem ThIs.inv {rows : List Str} {sl : Bool} {cl up : Int} {H : Hp} {x : V} {n : Int} (h : ThIs rows sl cl up H x (some n)) : ∃ (p : Addr) (xs : List V) (qs : List (Int × Int)), x = .ref p ∧ H p = some (.lst xs) ∧ IsSps H xs qs ∧ xs.length ≤ 100 ∧ qs ≠ [] ∧ (∀ q ∈ qs, openB rows q.1 q.2 = true) ∧ sumTo rows sl cl up qs (qs.length - 1) = some n := by
  cases h with
  | @lst p xs os _ e hv hl hd =>
    unfold sumO at hd
    split at hd
    · rename_i hc
      obtain ⟨g1, g2⟩ := spots_of hv hc.2
      refine ⟨p, xs, os.map fun o => o.getD (0, 0), rfl, e, g1, hl, fun z => ?_, g2, ?_⟩
      · have : os = [] := List.map_eq_nil_iff.mp z
        rw [this] at hc
        exact absurd hc.1 (by decide)
      · rw [List.length_map]; exact hd.symm
    · cases hd
theorem sumTo_stuck {rows : List Str} {sl : Bool} {cl up : Int} {qs : List (Int × Int)} {i : Nat} (h : sumTo rows sl cl up qs i = none) : ∀ j, i ≤ j → sumTo rows sl cl up qs j = none
  | 0, hj => by
    obtain rfl : i = 0 := by omega
    exact h
  | j + 1, hj => by
    by_cases e : i = j + 1
    · rw [← e]; exact h
    · unfold sumTo
      rw [sumTo_stuck h j (by omega)]
      rfl
theorem mem_opensO {rows : List Str} {c m : Nat} (h : FlOk rows c m) {o : Option (Int × Int)} : decide (o ∈ (openQ rows c rows.length).map some) = openO rows o := by
  cases o with
  | none =>
    refine decide_eq_false fun z => ?_
    obtain ⟨q, _, e⟩ := List.mem_map.mp z
    cases e
  | some q =>
    show _ = openB rows q.1 q.2
    rw [Bool.eq_iff_iff, decide_eq_true_iff]
    obtain ⟨r, k⟩ := q
    rw [← mem_opens h (r := r) (k := k)]
    exact ⟨fun z => by obtain ⟨q, hq, e⟩ := List.mem_map.mp z; cases e; exact hq, fun z => List.mem_map.mpr ⟨_, z, rfl⟩⟩
theorem sums_fit {rows : List Str} {sl : Bool} {cl up : Int} {c m : Nat} (h : FlOk rows c m) (u0 : 0 ≤ up) (u3 : up ≤ 3) {qs : List (Int × Int)} (hop : ∀ q ∈ qs, openB rows q.1 q.2 = true) (hl : qs.length ≤ 100) {ns : List Int} {i : Nat} (hi : i ≤ qs.length - 1) (hn : ns.length = i)
    (he : ∀ n ∈ ns, ∃ j, j < i ∧ costAt rows sl cl up qs j = some n) : PyProof.Rows.SumFits ns := by
  refine PyProof.Rows.sumFits_of_bound (B := 30) (n := 100) (by decide) (fun n hm => ?_) (by omega) (by decide)
  obtain ⟨j, hj, e⟩ := he n hm
  have g : ∀ j, j < qs.length → openB rows (qs.getD j (0, 0)).1 (qs.getD j (0, 0)).2 = true := fun j hj => by
    rw [List.getD_eq_getElem?_getD, List.getElem?_eq_getElem hj]
    exact hop _ (List.getElem_mem hj)
  have b := cost_bound h u0 u3 (g j (by omega)) (g (j + 1) (by omega)) e
  omega
end Cw
namespace K03
open PySem L2 Cw
def spNeedW : Sp := fun vs H Q _ => ∃ (a pw : Addr) (x : V) (rows : List Str) (c : Nat) (sl : Bool) (cl up n : Int), vs = [.ref a, .ref pw, x] ∧ FloorAt H a rows c ∧ H pw = some (.tup [.bl sl, .int cl, .int up]) ∧ 0 ≤ up ∧ up ≤ 3 ∧ ThIs rows sl cl up H x (some n) ∧ ∀ H', Same H H' → Q .non H'
def spCostOf : Sp := fun vs H Q _ => ∃ (a pw : Addr) (x : V) (rows : List Str) (c : Nat) (sl : Bool) (cl up n : Int), vs = [.ref a, .ref pw, x] ∧ FloorAt H a rows c ∧ H pw = some (.tup [.bl sl, .int cl, .int up]) ∧ 0 ≤ up ∧ up ≤ 3 ∧ ThIs rows sl cl up H x (some n) ∧ ∀ H', Same H H' → Q (.int n) H'
def spNoWay (C : Addr) : Sp := fun vs H _ E => ∃ (a pw : Addr) (x : V) (rows : List Str) (c : Nat) (sl : Bool) (cl up : Int), vs = [.ref a, .ref pw, x] ∧ FloorAt H a rows c ∧ H pw = some (.tup [.bl sl, .int cl, .int up]) ∧ 0 ≤ up ∧ up ≤ 3 ∧ ThIs rows sl cl up H x none ∧ ∀ e H', Same H H' → H' e = none → E (.ref C) (some e) H'
section
variable {P : Program} {w : World} {K : PySem.W.Frag} {mg : Str → Option Value} {base : Heap} {C : Addr} {Bn newId initId : String} {bm : List Value}
theorem scNW : FnScope ["floor", "walker", "thing"] ["floor", "walker", "thing"] (defScope sNeedW) := ⟨rfl, rfl, rfl, by decide +kernel, rfl, by decide +kernel, by decide +kernel⟩
theorem ok_needw {f fI : Addr} {fd fdI : FuncData} (F : Fun K "need_way" "need_way" sNeedW f fd) (GI : Call1 P w K mg base "is_way" 8 ["floor", "walker", "thing"] spIsWay fI fdI) : FnOk P w K mg base CX0 9 f fd ["floor", "walker", "thing"] spNeedW := by
  refine F.ok scNW (fun vs H Q E h => ?_) (fun cdv A outer s H vs Q E hr h => ?_)
  · obtain ⟨a, pw, x, rows, c, sl, cl, up, n, rfl, _⟩ := h
    rfl
  · obtain ⟨a, pw, x, rows, c, sl, cl, up, n, rfl, hf, hw, u0, u3, hx, q⟩ := h
    refine ⟨_, pss_one (ps_if (pt_not (pt_val (pe_call GI.ok hr (by rfl) GI.m GI.kp GI.b .nil pass0 (pa_cons (pv 0) (pa_cons (pv 1) (pa_cons (pv 2) pa_nil)))))) (pss_one ps_never) pss_nil), ?_⟩
    exact ⟨_, rfl, _, rfl, _, rfl, a, pw, x, rows, c, sl, cl, up, some n, rfl, hf, hw, u0, u3, hx, fun H' s' => ⟨_, rfl, iteF (q H' s')⟩⟩
theorem ok_needw_shut {f fI : Addr} {fd fdI : FuncData} (F : Fun K "need_way" "need_way" sNeedW f fd) (GI : Call1 P w K mg base "is_way" 8 ["floor", "walker", "thing"] spIsWay fI fdI) (O : PyProof.Rows.OwnCls "NoWay" C bm newId mg base) (FB : ExcBaseFacts Bn newId initId bm) :
    FnOk P w K mg base (CX1 P w) 9 f fd ["floor", "walker", "thing"] (spNoWay C) := by
  refine F.ok1 scNW (fun vs H Q E h => ?_) (fun cdv A outer s H vs Q E hr h => ?_)
  · obtain ⟨a, pw, x, rows, c, sl, cl, up, rfl, _⟩ := h
    rfl
  · obtain ⟨a, pw, x, rows, c, sl, cl, up, rfl, hf, hw, u0, u3, hx, q⟩ := h
    refine ⟨_, pss_one (ps_if (pt_not (pt_val (pe_call GI.ok hr (by rfl) GI.m GI.kp GI.b .nil pass0 (pa_cons (pv 0) (pa_cons (pv 1) (pa_cons (pv 2) pa_nil)))))) (pss_one (ps_raise (by rfl) O FB (pa_cons pe_str pa_nil))) pss_nil), ?_⟩
    exact ⟨_, rfl, _, rfl, _, rfl, a, pw, x, rows, c, sl, cl, up, none, rfl, hf, hw, u0, u3, hx, fun H' s' => ⟨_, rfl, iteT ⟨(show 1 ≤ sizeLine by decide), fun e he => q e H' s' he⟩⟩⟩
theorem scCO : FnScope ["floor", "walker", "way"] ["floor", "walker", "way"] (defScope sCostOf) := ⟨rfl, rfl, rfl, by decide +kernel, rfl, by decide +kernel, by decide +kernel⟩
theorem ok_costof {f fN fA : Addr} {fd fdN fdA : FuncData} (F : Fun K "cost_of" "cost_of" sCostOf f fd) (TW : TxW mg) (GN : Call1 P w K mg base "need_way" 9 ["floor", "walker", "thing"] spNeedW fN fdN) (GA : Call1 P w K mg base "costs_along" 7 ["floor", "walker", "spots"] spAlong fA fdA) :
    FnOk P w K mg base CX0 10 f fd ["floor", "walker", "way"] spCostOf := by
  refine F.ok scCO (fun vs H Q E h => ?_) (fun cdv A outer s H vs Q E hr h => ?_)
  · obtain ⟨a, pw, x, rows, c, sl, cl, up, n, rfl, _⟩ := h
    rfl
  · obtain ⟨a, pw, x, rows, c, sl, cl, up, n, rfl, hf, hw, u0, u3, hx, q⟩ := h
    have hr7 : Room 7 _ := hr.mono (by decide)
    refine ⟨_, pss_cons (ps_expr (pe_call GN.ok hr (by rfl) GN.m GN.kp GN.b .nil pass0 (pa_cons (pv 0) (pa_cons (pv 1) (pa_cons (pv 2) pa_nil)))))
      (pss_one (ps_ret (pe_callB (call_sumI rfl) (by rfl) TW.sum (by decide +kernel) (pa_cons (pe_call GA.ok hr7 (by rfl) GA.m GA.kp GA.b .nil pass0 (pa_cons (pv 0) (pa_cons (pv 1) (pa_cons (pv 2) pa_nil)))) pa_nil)))), ?_⟩
    refine ⟨_, rfl, _, rfl, _, rfl, a, pw, x, rows, c, sl, cl, up, n, rfl, hf, hw, u0, u3, hx, fun H1 s1 => ?_⟩
    obtain ⟨p, xs, qs, rfl, e, hv, hl, hne, hop, hs⟩ := hx.inv
    have hql := hv.length
    refine ⟨_, rfl, _, rfl, _, rfl, a, pw, p, rows, c, sl, cl, up, xs, qs, rfl, hf.same s1, s1 _ _ hw, u0, u3, s1 _ _ e, hv.same s1, hl, hop, fun pc G s2 hpc => ?_⟩
    obtain ⟨ns, e1, e2, e3, e4⟩ := sumTo_some hs
    rw [e1] at hpc
    refine ⟨pc, ns, rfl, SqL.of hpc, sums_fit hf.ok u0 u3 hop (by omega) (Nat.le_refl _) e3 e4, ?_⟩
    rw [e2]
    exact q G (s1.trans s2)
theorem ok_costof_shut {f fN : Addr} {fd fdN : FuncData} (F : Fun K "cost_of" "cost_of" sCostOf f fd) (GN : Call2 P w K mg base "need_way" 9 ["floor", "walker", "thing"] (spNoWay C) fN fdN) : FnOk P w K mg base (CX1 P w) 10 f fd ["floor", "walker", "way"] (spNoWay C) := by
  refine F.ok1 scCO (fun vs H Q E h => ?_) (fun cdv A outer s H vs Q E hr h => ?_)
  · obtain ⟨a, pw, x, rows, c, sl, cl, up, rfl, _⟩ := h
    rfl
  · obtain ⟨a, pw, x, rows, c, sl, cl, up, rfl, hf, hw, u0, u3, hx, q⟩ := h
    refine ⟨_, pss_cons (ps_expr (pe_call GN.ok hr (by rfl) GN.m GN.kp GN.b .nil pass1 (pa_cons (pv 0) (pa_cons (pv 1) (pa_cons (pv 2) pa_nil))))) pss_never, ?_⟩
    exact ⟨_, rfl, _, rfl, _, rfl, a, pw, x, rows, c, sl, cl, up, rfl, hf, hw, u0, u3, hx, q⟩
end
end K03


set_option maxHeartbeats 4000000
namespace L2
open PySem PySem.Spec PyProof.Rows
section
variable {X : Cx} {scope : Scope} {xs ys : List Str} {is : List Nat}
/-- x = [.. for .. in .. if ..]: the list is stored ahead of the block's end -/
theorem ps_setCompIf {i₀ : Nat} {x₀ : Str} {pos' spos : Pos} {elt tg iter tst : Expr} {pos : Pos} {wi : TI} {g : TG} {te : TE} {tt : TT} (hN₀ : X.N.Nodup) (hi₀ : X.N[i₀]? = some x₀) (hx₀ : Loc X.env.scope x₀) (hc : X.calm = true) (S : CompSc X scope xs ys is) (hi : PI X tg iter wi)
    (hg : ∀ fp s1 H1 C, PG (compCx X (xs ++ ys) scope (clOf X.env ys) fp s1 H1 C) tg g) (ht : ∀ fp s1 H1 C, PT (compCx X (xs ++ ys) scope (clOf X.env ys) fp s1 H1 C) tst tt) (he : ∀ fp s1 H1 C, PE (compCx X (xs ++ ys) scope (clOf X.env ys) fp s1 H1 C) elt te)
    (hsw : swapsWith (.ListComp elt [⟨tg, iter, [tst], 0⟩] scope pos) (some (.Name x₀ pos')) spos.line X.env = pure true := by rfl)
    (hs : ∀ x, foldedSetIterable iter X.env x = pure x := by intro _; rfl) (hf₀ : X.fn x₀ = true ∨ X.env.scope.names.lookup x₀ = some .local := by first | exact .inl rfl | exact .inr rfl | assumption) :
    PS X (.Assign [.Name x₀ pos'] (.ListComp elt [⟨tg, iter, [tst], 0⟩] scope pos) spos) (tAsg (tCompIf wi xs.length g tt te is) (gName i₀)) := by
  intro pins s σ H D₀ I h
  rw [exec_Assign_Name_used _ _ _ _ hsw]
  refine wpAny_bind (wpAny_standAt (wpAny_bind ?_))
  show wpAny _ X.A (do let _ ← comprehension (.ListComp elt [⟨tg, iter, [tst], 0⟩] scope pos) scope X.env _ (newList []) false (eval iter X.env) (some (assign (.Name x₀ pos') X.env))) _ _ s
  have hnames : ∀ x ∈ scope.names, x.2 = .local → scope.names.lookup x.1 = some .local := fun x hx hl => by
    have q := List.all_eq_true.mp S.names x hx
    rw [Bool.or_eq_true] at q
    rcases q with q | q
    · exact absurd hl (of_decide_eq_true q)
    · exact of_decide_eq_true q
  have hcell : ∀ x ∈ scope.names, x.2 ≠ .cell := fun x hx => by
    have q := List.all_eq_true.mp S.cov x hx
    rw [Bool.and_eq_true] at q
    exact of_decide_eq_true q.1
  refine wpAny_bind (wpAny_mono (wpAny_comprehension_free (use := some (assign (.Name x₀ pos') X.env)) (Q := fun _ s' => ∃ σ2 H2, Inv X pins σ2 H2 s' ∧ D₀.nx σ2 H2) (g := ⟨tg, iter, [tst], 0⟩) (gs := []) rfl hs S.clos S.kind hnames (thn (hi pins s σ H _ I h) fun xv s0 h0 => thn h0 fun itv s1 h1 => ?_)) (fun _ s' hq => wpAny_pure (wpAny_pure hq)) fun _ _ e => e)
  obtain ⟨it, fp, tn, J, H1, rfl, I1, T, st1, f1, n, W, w0, turn⟩ := h1
  refine wpAny_newObj_type (wpAny_newFunctionEnv hcell (by intro y hy; simp at hy) (fun h₁ hns₁ hsb₁ => ?_) S.kind)
  dsimp only at hns₁ hsb₁ ⊢
  generalize hH2 : s1.heap.push { cls := .type "list", dict := none, data := .seq ([] : List Value).toArray } = G2 at hns₁ hsb₁ ⊢
  have hCs : G2.objs.size = s1.heap.objs.size + 1 := by rw [← hH2, Heap.size_push]
  have hCle : s1.heap.objs.size ≤ G2.objs.size := by rw [hCs]; exact Nat.le_succ _
  have hDC : s1.heap.objs.size ≠ G2.objs.size := by rw [hCs]; exact Nat.ne_of_lt (Nat.lt_succ_self _)
  have old : ∀ b o, s1.heap.get? b = some o → h₁.get? b = some o := fun b o e => hsb₁.extBut b o (Nat.ne_of_lt (Nat.lt_of_lt_of_le (Heap.lt_size e) hCle)) (Heap.get?_push_of_some _ (hH2 ▸ Heap.get?_push_of_some _ e))
  have hacc : h₁.get? s1.heap.objs.size = some (lobj [] 0) := hsb₁.extBut _ _ hDC (Heap.get?_push_of_some _ (hH2 ▸ Heap.get?_push_size _ rfl))
  have hfl : ∀ b ∈ fp, b < s1.heap.objs.size := fun b hb => by
    obtain ⟨o, e, _⟩ := T.obj _ _ st1 b hb
    exact Heap.lt_size e
  -- the block's context
  generalize hY : compCx X (xs ++ ys) scope (clOf X.env ys) fp s1 H1 G2.objs.size = Y
  have okY : Y.Ok := by rw [← hY]; exact compCx_ok I1 hc S hCle f1 hfl
  have hDf : ∀ b ∈ fp, s1.heap.objs.size ≠ b := fun b hb => Ne.symm (Nat.ne_of_lt (hfl b hb))
  have fsub : ∀ b, b ∈ Y.fs → b = X.env.locals ∨ b ∈ X.fs := fun b hb => by
    rw [← hY] at hb
    exact List.mem_cons.mp (I1.stkSub b hb)
  have fslt : ∀ b ∈ Y.fs, b < s1.heap.objs.size := fun b hb => by
    rw [← hY] at hb
    obtain ⟨_, o, ho, _⟩ := I1.stack.mem hb
    exact Heap.lt_size ho
  have hDfs : s1.heap.objs.size ∉ Y.fs := fun z => Nat.lt_irrefl _ (fslt _ z)
  have hYl : Y.env.locals = G2.objs.size := by rw [← hY]; rfl
  have hYc : ∀ x c, Y.env.cells.lookup x = some c → X.env.cells.lookup x = some c := fun x c e => by
    rw [← hY] at e
    exact clOf_lookup S.cells x c e
  have clt : ∀ x c, Y.env.cells.lookup x = some c → c < s1.heap.objs.size := fun x c e => by
    obtain ⟨v, q⟩ := I1.cell x c (hYc x c e)
    exact q.lt
  have hYpn : Y.pn = [] := by rw [← hY]; rfl
  have hYex : Y.ex = fp := by rw [← hY]; rfl
  have hYs : Y.s₀ = s1 := by rw [← hY]; rfl
  have hYH : Y.H₀ = H1 := by rw [← hY]; rfl
  have hYp : Y.prog = X.prog := by rw [← hY]; rfl
  have hYw : Y.w = X.w := by rw [← hY]; rfl
  have hYK : Y.K = X.K := by rw [← hY]; rfl
  have hYA : Y.A = X.A := by rw [← hY]; rfl
  have hYe : compEnvC scope (clOf X.env ys) G2.objs.size X.env = Y.env := by rw [← hY]; rfl
  have hYca : Y.calm = true := by rw [← hY]; rfl
  have hYxe : Y.xe = fun _ _ => False := by rw [← hY]; rfl
  have hYstk : Y.fs = frs X.stack := by rw [← hY]; rfl
  -- pins of the list that is made
  have pinD : ∀ {H' : Hp} {s' : Shared} {its : List Value} {k : Nat}, s'.heap.get? s1.heap.objs.size = some (lobj its k) → H' s1.heap.objs.size = none → ∀ p ∈ [(s1.heap.objs.size, lobj its k)], s'.heap.get? p.1 = some p.2 ∧ H' p.1 = none ∧ p.1 ≠ Y.env.locals ∧ p.1 ∉ Y.fs ∧ ∀ v, p.2.data ≠ .cell v :=
    fun {H' s' its k} e hn p hp => by
      obtain rfl := List.mem_singleton.mp hp
      exact ⟨e, hn, by rw [hYl]; exact hDC, hDfs, fun v => lobj_cell its k v⟩
  have fpY : ∀ {H' : Hp} {its : List Value} {k : Nat}, (∀ b ∈ fp, H' b = none) → ∀ b ∈ fp, FpOk Y [(s1.heap.objs.size, lobj its k)] H' b := fun {H' its k} hn b hb =>
    ⟨hn b hb, by rw [hYl]; exact Nat.ne_of_lt (Nat.lt_of_lt_of_le (hfl b hb) hCle), fun z => (fsub b z).elim (f1 b hb).2.1 (f1 b hb).2.2.1, .inl (by rw [hYex]; exact hb),
      fun x c e => (f1 b hb).2.2.2.2.1 x c (hYc x c e), fun p hp => by
        rw [hYpn, List.nil_append] at hp
        obtain rfl := List.mem_singleton.mp hp
        exact hDf b hb⟩
  have hDnew : H1 s1.heap.objs.size = none := I1.hok.fresh (Nat.le_refl _)
  have I2 : ∀ tk, Inv Y [(s1.heap.objs.size, lobj [] 0)] (List.replicate xs.length none ++ inS σ is) H1 { s1 with heap := h₁, toks := tk } := fun tk => by
    refine ⟨okY, by rw [hYs], I1.bare, by rw [hYs, hYH]; exact Un.kept old, ⟨_, by rw [hYl]; exact hns₁, fun i x v e1 e2 e3 => ?_⟩, fun x c e => ?_, ?_, fun x c e => I1.freeC x c (hYc x c e), fun p hp => ?_, by rw [hYp, hYw]; exact I1.hok.kept old, ?_⟩
    · -- a free name
      have hNY : Y.N = xs ++ ys := by rw [← hY]; rfl
      rw [hNY] at e1
      by_cases hlt : i < xs.length
      · rw [List.getElem?_append_left (by rw [List.length_replicate]; exact hlt), List.getElem?_replicate, if_pos hlt] at e2
        cases e2
      · have hge : xs.length ≤ i := Nat.not_lt.mp hlt
        rw [List.getElem?_append_right (by rw [List.length_replicate]; exact hge), List.length_replicate] at e2
        rw [List.getElem?_append_right hge] at e1
        obtain ⟨i0, h0, h1⟩ := inS_get S.slots _ x v e1 e2
        have hm : x ∈ ys := List.mem_of_getElem? e1
        have kx : X.env.kindOf x = some .cell := of_decide_eq_true (List.all_eq_true.mp S.kX x hm)
        have ky : (relabel scope X.env).names.lookup x = some .cell := of_decide_eq_true (List.all_eq_true.mp S.kY x hm)
        obtain ⟨m, _, hl⟩ := I1.loc
        obtain ⟨u, ru, lk⟩ := hl i0 x v h0 h1 (.inr (.inl kx))
        refine ⟨u, ru, .inr ⟨.inl (by rw [← hY]; exact ky), ?_⟩⟩
        rcases lk with ⟨z, _⟩ | ⟨_, c, hc1, hc2⟩
        · rw [kx] at z; cases z
        · obtain ⟨c', hc'⟩ := clOf_has (env := X.env) hm
          have hc'' := clOf_lookup S.cells x c' hc'
          rw [hc1] at hc''
          cases hc''
          refine ⟨c, by rw [← hY]; exact hc', ?_⟩
          obtain ⟨o, ho, hd⟩ := hc2
          exact ⟨o, old _ _ ho, hd⟩
    · obtain ⟨v, o, ho, hd⟩ := I1.cell x c (hYc x c e)
      exact ⟨v, o, old _ _ ho, hd⟩
    · rw [hYl]; exact I1.hok.fresh hCle
    · rw [hYpn, List.nil_append] at hp
      exact pinD (s' := { s1 with heap := h₁, toks := tk }) hacc hDnew p hp
    · have hNY : Y.N = xs ++ ys := by rw [← hY]; rfl
      have hl := congrArg List.length S.slots
      rw [List.length_map, List.length_map] at hl
      rw [hNY, List.length_append, List.length_append, List.length_replicate]
      unfold inS
      rw [List.length_map, hl]
  have loop : ∀ s₃ : Shared, s₃ = { s1 with heap := h₁, toks := s1.toks + ([] : List (Str × Value)).length } →
      codeAny (model X.prog X.w) X.A (.compLoop (.ListComp elt [⟨tg, iter, [tst], 0⟩] scope pos) 0 (.ref it) (.ref s1.heap.objs.size) (compEnvC scope (clOf X.env ys) G2.objs.size X.env))
        (compPost (model X.prog X.w) X.A X.xe (some (assign (.Name x₀ pos') X.env)) (fun _ s' => ∃ σ2 H2, Inv X pins σ2 H2 s' ∧ D₀.nx σ2 H2) (.ref s1.heap.objs.size) G2.objs.size) s₃ := by
    rintro s₃ rfl
    rw [hYe]
    refine compLoop_if (fun k s' => ∃ i made σ' H' its c, Inv Y [(s1.heap.objs.size, lobj its c)] σ' H' s' ∧ tn i s'.heap ∧ (∀ b ∈ fp, H' b = none) ∧ Vals made its ∧ k = n - i ∧ W i made σ' H') ?_ n
      ⟨0, [], _, H1, [], 0, I2 _, T.keep _ _ _ st1 fun b _ o e => old b o e, fun b hb => (f1 b hb).1, .nil, rfl, w0⟩
    rintro k s' ⟨i, made, σ', H', its, c, I3, st3, fr3, rv, rfl, w3⟩
    obtain ⟨hz, tw⟩ := turn i made σ' H' w3
    have pD := I3.pin (s1.heap.objs.size, lobj its c) (by rw [hYpn]; exact List.mem_singleton.mpr rfl)
    rcases tw with ⟨stop, hq⟩ | ⟨go, hin, step⟩
    · rw [← hYA]
      refine thn (T.done Y hYp hYw hYK hYca i _ s' σ' H' _ I3 (fpY fr3) st3 stop) fun r s4 ⟨hr, I4⟩ => ?_
      subst hr
      obtain ⟨m, hn4, _⟩ := I4.loc
      rw [hYl] at hn4
      have pD4 := I4.pin (s1.heap.objs.size, lobj its c) (by rw [hYpn]; exact List.mem_singleton.mpr rfl)
      have kp : ∀ b o, b ≠ G2.objs.size → s4.heap.get? b = some o → s4.heap.get? b = some o := fun b o hb e => e
      have lt1 : ∀ {b o}, s1.heap.get? b = some o → b ≠ G2.objs.size := fun {b o} e => Nat.ne_of_lt (Nat.lt_of_lt_of_le (Heap.lt_size e) hCle)
      have hbase := I4.base
      rw [hYs, hYH, hYex, hYstk] at hbase
      have ltH : ∀ {b o}, H1 b = some o → b ≠ s1.heap.objs.size := fun {b o} e => Nat.ne_of_lt (I1.hok.lt e)
      have u : Un (frs X.stack) fp H1 (upd H' s1.heap.objs.size (.lst made)) s1.heap s4.heap := by
        refine ⟨fun b o e n hb hx => kp b o (lt1 e) (hbase.keep b o e n hb hx), fun b o e n hb hx => ?_, fun b o e n hx => ?_, fun b o e hx => ?_, fun b xs e => ?_, fun b o u e => ?_, fun b ps e => ?_⟩
        · obtain ⟨sl, q⟩ := hbase.slot b o e n hb hx
          exact ⟨sl, kp b _ (lt1 e) q⟩
        · rw [upd_ne (Nat.ne_of_lt (Heap.lt_size e))]; exact hbase.free b o e n hx
        · obtain ⟨o', q⟩ := hbase.there b o e hx
          exact ⟨o', kp b _ (lt1 e) q⟩
        · rw [upd_ne (ltH e)]; exact hbase.tups b xs e
        · rw [upd_ne (ltH e)]; exact hbase.frzs b o u e
        · obtain ⟨more, q⟩ := hbase.tbls b ps e
          exact ⟨more, by rw [upd_ne (ltH e)]; exact q⟩
      have hCn : H' G2.objs.size = none := by rw [← hYl]; exact I4.free
      have hok' : HOk X.prog X.w (upd H' s1.heap.objs.size (.lst made)) s4.heap := fun b o e => by
        by_cases hb : b = s1.heap.objs.size
        · subst hb
          rw [upd_same] at e
          cases e
          exact ⟨Nat.le_of_lt hz, its, c, rv, kp _ _ hDC pD4.1⟩
        · rw [upd_ne hb] at e
          have x4 := I4.hok b o e
          rw [hYp, hYw] at x4
          have neC : ∀ b' u, H' b' = some u → b' ≠ G2.objs.size := fun b' u q z => by rw [z, hCn] at q; cases q
          have neD : ∀ b' u, H' b' = some u → b' ≠ s1.heap.objs.size := fun b' u q z => by rw [z, pD4.2.1] at q; cases q
          refine x4.stay (fun b' u hb' q => kp b' u ?_ q) (fun b' q => ?_) fun b' xs q => ?_
          · rcases hb' with z | z
            · rw [z]; exact neC b o e
            · exact neC b' _ z
          · rw [upd_ne (neD b' _ q)]; exact q
          · rw [upd_ne (neD b' _ q)]; exact q
      have I5 : Inv X pins σ (upd H' s1.heap.objs.size (.lst made)) s4 := I1.call' (by show s4.os = s1.os; rw [I4.os, hYs]) u hok' I4.bare fun b hb => ⟨(f1 b hb).2.2.2.1, (f1 b hb).2.1, (f1 b hb).2.2.2.2.1, (f1 b hb).2.2.2.2.2⟩
      obtain ⟨g0, g1, g2, g3, g4, g5⟩ := I1.fpOk hCle (I1.hok.fresh hCle)
      refine wpAny_assign_Name (store_ok2 I5 hN₀ hi₀ hx₀ (show RelV (.ref s1.heap.objs.size) (.ref s1.heap.objs.size) from rfl) (fun s6 I6 ⟨a6, sb6, ha6⟩ => ?_) hf₀)
      have nea : G2.objs.size ≠ a6 := by
        rcases ha6 with z | z
        · rw [z]; exact g1
        · exact fun z2 => g4 _ _ z z2.symm
      refine ⟨m, hn4.sameBut sb6 nea, fun h' hs' => ?_⟩
      have I7 := I6.turned (t' := s6.toks) (it := G2.objs.size) (fun b o hb e => hs'.extBut b o hb e) (by rw [upd_ne (Ne.symm hDC)]; exact hCn) g1 g3 g4 g5
      exact ⟨_, _, I7, hq _ pD4.2.1⟩
    · rw [← hYA]
      refine thn (T.item Y hYp hYw hYK hYca i _ s' σ' H' _ I3 (fpY fr3) st3 go) fun r s4 ⟨u, hr, h4⟩ => ?_
      subst hr
      dsimp only
      refine thn h4 fun _ s5 ⟨x, H5, I5, r5, y5, st5, fr5⟩ => ?_
      have I5' := I5.pinned (fpY fr5) (T.obj _ _ st5)
      have hgY := hg fp s1 H1 G2.objs.size
      have heY := he fp s1 H1 G2.objs.size
      have htY := ht fp s1 H1 G2.objs.size
      rw [hY] at hgY heY htY
      rw [← hYp, ← hYw]
      refine wpAny_mono (hgY _ s5 σ' H5 x u _ I5' r5 (step x H5 y5)) (fun _ s6 ⟨σ6, H6, I6, q6⟩ => ?_) (fun _ _ f => by rw [hYxe] at f; exact f.elim)
      refine wpAny_mono (htY _ s6 σ6 H6 _ I6 q6) (fun okb sT ⟨HT, IT, qT⟩ => ?_) (fun _ _ f => by rw [hYxe] at f; exact f.elim)
      have pDT := IT.pin (s1.heap.objs.size, lobj its c) (List.mem_append_right _ (List.mem_append_left _ (List.mem_singleton.mpr rfl)))
      have stT : tn (i + 1) sT.heap := T.keep _ _ _ st5 fun b hb o e => (IT.pin (b, o) (List.mem_append_right _ (List.mem_append_right _ (mem_pinsAt hb e)))).1
      cases okb with
      | false =>
        refine ⟨n - (i + 1), by omega, i + 1, made, σ6, HT, its, c, IT.unpinned, stT, fun b hb => ?_, rv, rfl, qT⟩
        obtain ⟨o, e, d⟩ := T.obj _ _ st5 b hb
        exact (IT.pin (b, o) (List.mem_append_right _ (List.mem_append_right _ (mem_pinsAt hb e)))).2.1
      | true =>
      refine wpAny_mono (heY _ sT σ6 HT _ IT qT) (fun v s7 ⟨y, H7, I7, r7, q7⟩ => ?_) (fun _ _ f => by rw [hYxe] at f; exact f.elim)
      have pD7 := I7.pin (s1.heap.objs.size, lobj its c) (List.mem_append_right _ (List.mem_append_left _ (List.mem_singleton.mpr rfl)))
      have e7 : s7.heap.get? s1.heap.objs.size = some { cls := .type "list", data := .seq its.toArray c } := pD7.1
      refine append_at (hsz := by rw [List.size_toArray, ← rv.length]; exact Nat.le_of_lt hz) e7 fun h' hs' hD' => ?_
      have I8 : Inv Y [] σ6 H7 s7 := I7.pins_of fun _ z => nomatch z
      have I9 : Inv Y [] σ6 H7 { s7 with heap := h' } := I8.turned (t' := s7.toks) (it := s1.heap.objs.size) (fun b o hb e => hs'.extBut b o hb e) pD7.2.1 (by rw [hYl]; exact hDC) (.inr (by rw [hYs]; exact Nat.le_refl _))
        (fun x c' e => Nat.ne_of_lt (clt x c' e)) (fun p hp => by rw [hYpn] at hp; cases hp)
      have eD : h'.get? s1.heap.objs.size = some (lobj (its ++ [v]) (c + 1)) := by rw [hD', List.push_toArray]
      have st7 : tn (i + 1) s7.heap := T.keep _ _ _ st5 fun b hb o e => (I7.pin (b, o) (List.mem_append_right _ (List.mem_append_right _ (mem_pinsAt hb e)))).1
      refine ⟨n - (i + 1), by omega, i + 1, made ++ [y], σ6, H7, its ++ [v], c + 1, I9.pins_of (pinD (s' := { s7 with heap := h' }) eD pD7.2.1), T.keep _ _ _ st7 fun b hb o e => hs'.extBut b o (Ne.symm (hDf b hb)) e, fun b hb => ?_, rv.append (.cons r7 .nil), rfl, q7⟩
      obtain ⟨o, e, d⟩ := T.obj _ _ st5 b hb
      exact (I7.pin (b, o) (List.mem_append_right _ (List.mem_append_right _ (mem_pinsAt hb e)))).2.1
  exact codeAny_compStart_list (loop _ rfl) (T.self _ 0 _ _ _ (T.keep _ _ _ st1 fun b _ o e => old b o e) (loop _ rfl))
end
end L2


set_option maxHeartbeats 4000000
namespace Cw
open PySem L2
/-- the costs found among the first j steps -/
def foundQ (rows : List Str) (sl : Bool) (cl up r k r' k' : Int) (j : Nat) : List V := (((stepsQ rows sl cl up r k).take j).filter fun st => decide (st.1 = (r', k'))).map fun st => V.int st.2
theorem found_succ {rows : List Str} {sl : Bool} {cl up r k r' k' : Int} {j : Nat} {st : (Int × Int) × Int} (h : (stepsQ rows sl cl up r k)[j]? = some st) :
    foundQ rows sl cl up r k r' k' (j + 1) = foundQ rows sl cl up r k r' k' j ++ (if st.1 = (r', k') then [V.int st.2] else []) := by
  unfold foundQ
  rw [List.take_add_one, h, List.filter_append, List.map_append]
  congr 1
  by_cases e : st.1 = (r', k') <;> simp [e]
theorem found_len {rows : List Str} {sl : Bool} {cl up r k r' k' : Int} {j : Nat} : (foundQ rows sl cl up r k r' k' j).length ≤ j := by
  unfold foundQ
  rw [List.length_map]
  refine Nat.le_trans (List.length_filter_le _ _) ?_
  rw [List.length_take]
  omega
theorem found_all {rows : List Str} {sl : Bool} {cl up r k r' k' : Int} {j : Nat} (ho : openB rows r' k' = true) (hj : (stepsQ rows sl cl up r k).length ≤ j) : foundQ rows sl cl up r k r' k' j = (costB rows sl cl up r k r' k').toList.map V.int := by
  unfold foundQ
  rw [List.take_of_length_le hj, ← found_of ho, List.map_map]
  rfl
theorem steps_len (rows : List Str) (sl : Bool) (cl up r k : Int) : (stepsQ rows sl cl up r k).length ≤ 9 := by
  unfold stepsQ
  exact Nat.le_trans (List.length_filterMap_le _ _) (aroundQ_len rows r k 3)
end Cw
namespace K03
open PySem L2 Cw
abbrev lSum : Stmt := top 32
abbrev lWord : Stmt := top 33
abbrev lTried : Stmt := top 35
def spSum : Sp := fun vs H Q _ => ∃ (a pw : Addr) (x : V) (rows : List Str) (c : Nat) (sl : Bool) (cl up : Int) (d : Option Int), vs = [.ref a, .ref pw, x] ∧ FloorAt H a rows c ∧ H pw = some (.tup [.bl sl, .int cl, .int up]) ∧ 0 ≤ cl ∧ 0 ≤ up ∧ up ≤ 3 ∧
  ThIs rows sl cl up H x d ∧ ∀ H', Same H H' → Q (optV d) H'
section
variable {P : Program} {w : World} {K : PySem.W.Frag} {mg : Str → Option Value} {base : Heap}
abbrev NSu : List Str := ["_law_floor_here", "_law_walker_here", "_law_way", "_law_spots_here", "_law_cost_here", "_law_k", "_law_goal", "_law_found"]
theorem scSu : FnScope NSu ["_law_floor_here", "_law_walker_here", "_law_way"] (defScope lSum) := ⟨rfl, rfl, rfl, by decide +kernel, rfl, by decide +kernel, by decide +kernel⟩
theorem ok_sum {f fS fP : Addr} {fd fdS fdP : FuncData} (F : Fun K "_law_sum" "_law_sum" lSum f fd) (T : Tx mg) (TW : TxW mg) (hEn : mg "enumerate" = none) (GS : Call1 P w K mg base "_law_spots" 1 ["_law_floor_here"] spOpens fS fdS)
    (GP : Call1 P w K mg base "_law_steps" 2 ["_law_floor_here", "_law_walker_here", "_law_spot"] spLSteps fP fdP) : FnOk P w K mg base CX0 3 f fd ["_law_floor_here", "_law_walker_here", "_law_way"] spSum := by
  refine F.ok scSu (fun vs H Q E h => ?_) (fun cdv A outer s H vs Q E hr h => ?_)
  · obtain ⟨a, pw, x, rows, c, sl, cl, up, d, rfl, _⟩ := h
    rfl
  · obtain ⟨a, pw, x, rows, c, sl, cl, up, d, rfl, hf, hw, c0, u0, u3, hx, q⟩ := h
    have hr1 : Room 1 _ := hr.mono (by decide)
    refine ⟨_, pss_cons (ps_set (i := 3) scSu.nd rfl (Or.inr rfl) (pe_call GS.ok hr1 (by rfl) GS.m GS.kp GS.b .nil pass0 (pa_cons (pv 0) pa_nil)))
      (pss_cons (ps_if (pw_or (pt_not (pt_val (pe_callB call_isinst (by rfl) T.isinstance (by decide +kernel) (pa_cons (pv 2) (pa_cons (pe_tyList (by rfl) TW.list) pa_nil)))))
        (pw_or (pt_cmpR (op_eq_nil hr.units0) (pv 2) (pe_lst pa_nil) (nomark _))
        (pw_or1 (pt_cmpR (op_ne_nil hr.units0) (pe_compIf (xs := ["_law_spot"]) (ys := ["_law_spots_here"]) (is := [3]) rfl ⟨rfl, rfl, rfl, by decide +kernel, by decide +kernel, rfl, rfl, rfl⟩ (pi_list (pv 2))
            (fun _ _ _ _ => pg_name (i := 0) (show List.Nodup (["_law_spot", "_law_spots_here"] : List Str) by decide +kernel) rfl (Or.inl rfl) (.inr rfl))
            (fun _ _ _ _ => pt_cmpR (op_notin_els (hr.unitsN (by decide))) (pv 0) (pv 1) (by rfl)) (fun _ _ _ _ => pv 0)) (pe_lst pa_nil) (nomark _))))).pt
        (pss_one (ps_ret pe_non)) pss_nil)
      (pss_cons (ps_set (i := 4) scSu.nd rfl (Or.inl rfl) pe_int)
      (pss_cons (ps_for PassesOwn.never rfl (pi_enumL (by rfl) hEn (pa_cons (pe_slice sl_list (pv 2) (po_some pe_int) po_none) pa_nil)) (pg_tup rfl (pgs_cons (pg_name (i := 5) scSu.nd rfl (Or.inl rfl)) (pgs_cons (pg_name (i := 6) scSu.nd rfl (Or.inr rfl)) pgs_nil)))
        (pss_cons (ps_setCompIf (i₀ := 7) scSu.nd rfl (Or.inl rfl) (xs := ["_law_step"]) (ys := ["_law_goal"]) (is := [6]) rfl ⟨rfl, rfl, rfl, by decide +kernel, by decide +kernel, rfl, rfl, rfl⟩
            (pi_list (pe_call GP.ok hr (by rfl) GP.m GP.kp GP.b .nil pass0 (pa_cons (pv 0) (pa_cons (pv 1) (pa_cons (pe_ix ix_list (pv 2) (pv 5) (fun _ _ => rfl)) pa_nil)))))
            (fun _ _ _ _ => pg_name (i := 0) (show List.Nodup (["_law_step", "_law_goal"] : List Str) by decide +kernel) rfl (Or.inl rfl) (.inr rfl))
            (fun _ _ _ _ => pt_cmpR (r := rTupI K id) (op_eq_tupI hr.units0) (pe_ix (r := rIxT K) ix_tup (pv 0) pe_int (fun _ _ => rfl)) (pv 1) (nomark _)) (fun _ _ _ _ => pe_ix (r := rIxT K) ix_tup (pv 0) pe_int (fun _ _ => rfl)))
        (pss_cons (ps_if (pt_cmpR (op_eq_nil hr.units0) (pv 7) (pe_lst pa_nil) (nomark _)) (pss_one (ps_ret pe_non)) pss_nil)
        (pss_one (ps_set (i := 4) scSu.nd rfl (Or.inl rfl) (pe_op op_add (pv 4) (pe_ix ix_list (pv 7) pe_int (fun _ _ => rfl))))))))
      (pss_one (ps_ret (pv 4)))))), ?_⟩
    refine ⟨_, rfl, a, rows, c, rfl, hf, fun l vs H1 n1 s1 hl1 hv1 => ?_⟩
    cases hx with
    | non =>
      obtain ⟨t1, y1, e1⟩ := ty_listN (K := K) (H := H1)
      exact ⟨_, rfl, _, _, _, _, rfl, y1, e1, _, rfl, iteT (iteT (q H1 s1))⟩
    | tup e =>
      obtain ⟨t1, y1, e1⟩ := ty_listT (K := K) (s1 _ _ e)
      exact ⟨_, rfl, _, _, _, _, rfl, y1, e1, _, rfl, iteT (iteT (q H1 s1))⟩
    | @lst p xs os _ e hv hlen hd =>
      have e1' := s1 _ _ e
      obtain ⟨t1, y1, e1⟩ := ty_listL (K := K) e1'
      have hol := paired_len hv
      refine ⟨_, rfl, _, _, _, _, rfl, y1, e1, _, rfl, iteF ⟨_, rfl, (by decide), fun pn hn => ?_⟩⟩
      have s2 := s1.trans (same_upd (o := .lst []) hn)
      refine ⟨p, pn, xs, rfl, rfl, SqL.of (s2 _ _ e), SqL.of upd_same, _, rfl, ?_⟩
      refine ite2 (fun h0 => ?_) (fun h0 => ?_)
      · have hxs : xs = [] := List.isEmpty_iff.mp h0
        have hos : os = [] := List.length_eq_zero_iff.mp (by rw [← hol, hxs]; rfl)
        have ed : d = none := by rw [hd, hos]; rfl
        rw [ed] at q
        exact q _ s2
      · have hne : os.isEmpty = false := by
          cases os with
          | nil => exact absurd (List.isEmpty_iff.mpr (List.length_eq_zero_iff.mp hol)) h0
          | cons _ _ => rfl
        have hx1 : 1 ≤ xs.length := by
          cases xs with
          | nil => exact absurd rfl h0
          | cons _ _ => simp
        have S1 := same_upd (o := .lst []) hn
        have hls : (upd H1 pn (.lst [])) l = some (.lst vs) := S1 _ _ hl1
        refine ⟨_, rfl, p, rfl, ⟨xs, SqL.of (s2 _ _ e)⟩, xs.length, fun i ys σ' G => i ≤ xs.length ∧ (∃ v0, σ' = [v0, some (.ref l)]) ∧ Same (upd H1 pn (.lst [])) G ∧ ys.length ≤ i ∧ ys.isEmpty = (os.take i).all (openO rows), ⟨Nat.zero_le _, ⟨none, rfl⟩, Same.refl _, Nat.le_refl _, rfl⟩, ?_⟩
        rintro i ys σ' G ⟨hi, ⟨v0, rfl⟩, sG, hyl, hye⟩
        refine ⟨Nat.lt_of_le_of_lt (show ys.length ≤ 100 by omega) (by decide), ?_⟩
        have S2 := s2.trans sG
        by_cases hlt : i < xs.length
        · refine .inr ⟨⟨xs, xs[i], SqL.of (S2 _ _ e), List.getElem?_eq_getElem hlt⟩, hlt, fun v G' y => ?_⟩
          obtain ⟨rfl, hy⟩ := y
          obtain ⟨o, ho, hel⟩ := paired_at hv (hy xs (SqL.of (S2 _ _ e)))
          refine ⟨_, rfl, _, rfl, l, o, vs, _, rfl, hel.same S2, sG _ _ hls, (hv1.same S1).same sG, _, rfl, ?_⟩
          rw [mem_opensO hf.ok]
          have et : (os.take (i + 1)).all (openO rows) = ((os.take i).all (openO rows) && openO rows o) := by
            rw [List.take_add_one, ho, List.all_append]
            simp
          refine ite2 (fun hb => ?_) (fun hb => ?_)
          · have hb' : openO rows o = false := by cases hz : openO rows o with | false => rfl | true => rw [hz] at hb; cases hb
            refine ⟨_, rfl, hlt, ⟨_, rfl⟩, sG, by rw [List.length_append]; show ys.length + 1 ≤ i + 1; omega, ?_⟩
            rw [et, hb', Bool.and_false]
            cases ys <;> rfl
          · have hb' : openO rows o = true := by cases hz : openO rows o with | true => rfl | false => rw [hz] at hb; exact absurd rfl hb
            refine ⟨hlt, ⟨_, rfl⟩, sG, by omega, ?_⟩
            rw [et, hb', Bool.and_true]
            exact hye
        · have ei : i = xs.length := by omega
          subst ei
          refine .inl ⟨⟨xs, SqL.of (S2 _ _ e), Nat.le_refl _⟩, fun pb hpb => ?_⟩
          rw [List.take_of_length_le (show os.length ≤ xs.length by omega)] at hye
          have s3 := same_upd (o := .lst ys) hpb
          refine ⟨(by decide), fun pn2 hn2 => ?_⟩
          have s4 := s3.trans (same_upd (o := .lst []) hn2)
          have S4 := S2.trans s4
          refine ⟨pb, pn2, ys, rfl, rfl, SqL.of ((same_upd hn2) _ _ upd_same), SqL.of upd_same, _, rfl, ?_⟩
          rw [hye]
          cases hb : os.all (openO rows) with
          | false =>
            refine iteT ?_
            have ed : d = none := by rw [hd]; unfold sumO; rw [if_neg (by rw [hb]; exact fun z => Bool.false_ne_true z.2)]
            rw [ed] at q
            exact q _ S4
          | true =>
            refine iteF ?_
            obtain ⟨g1, g2⟩ := spots_of hv hb
            have ed : d = sumTo rows sl cl up (os.map fun o => o.getD (0, 0)) (os.length - 1) := by rw [hd]; unfold sumO; rw [if_pos ⟨hne, hb⟩]
            generalize hqs : (os.map fun o => o.getD (0, 0)) = qs at g1 g2 ed
            have hql := g1.length
            refine ⟨_, rfl, 1, rfl, p, xs, rfl, SqL.of (S4 _ _ e), fun lt ht => ?_⟩
            rw [cut_one]
            have s5 := same_upd (o := .lst (xs.drop 1)) ht
            refine ⟨lt, xs.drop 1, rfl, SqL.of upd_same, for_enumL (fun i σ G => ∃ (t : Int) (v5 v6 v7 : Option V), σ = [some (.ref a), some (.ref pw), some (.ref p), some (.ref l), some (.int t), v5, v6, v7] ∧ Same H G ∧ G lt = some (.lst (xs.drop 1)) ∧ sumTo rows sl cl up qs i = some t)
              ⟨0, none, none, none, rfl, S4.trans s5, upd_same, rfl⟩ (fun i σ G _ ⟨_, _, _, _, _, _, h, _⟩ => SqL.of h) ?_ ?_⟩
            · rintro i x σ G pp hx ⟨t, v5, v6, v7, rfl, sG5, hlt5, hst⟩ hpp
              rw [List.getElem?_drop] at hx
              have hi1 : 1 + i < xs.length := (List.getElem?_eq_some_iff.mp hx).1
              have s6 := sG5.trans (same_upd (o := .tup [.int (i : Nat), x]) hpp)
              have gv := g1.same s6
              obtain ⟨⟨r', k'⟩, hq2, pg, rfl, hpg⟩ := paired_get gv hx
              have hxi : xs[i]? = some xs[i] := List.getElem?_eq_getElem (by omega)
              obtain ⟨⟨r, k⟩, hq1, ps, eps, hps⟩ := paired_get gv hxi
              rw [Nat.add_comm] at hq2
              have ho1 : openB rows r k = true := g2 (r, k) (List.mem_of_getElem? hq1)
              have ho2 : openB rows r' k' = true := g2 (r', k') (List.mem_of_getElem? hq2)
              have ec : costAt rows sl cl up qs i = costB rows sl cl up r k r' k' := by
                unfold costAt
                rw [List.getD_eq_getElem?_getD, List.getD_eq_getElem?_getD, hq1, hq2]
                rfl
              refine ⟨pp, _, rfl, SqT.of upd_same, rfl, _, _, rfl, _, _, rfl, rfl, ?_⟩
              refine ⟨_, rfl, _, rfl, _, rfl, _, rfl, p, xs, (i : Int), .ref ps, rfl, rfl, SqL.of (s6 _ _ e), atI_nat (j := i) (by rw [hxi, eps]), a, pw, ps, rows, c, sl, cl, up, r, k, rfl, hf.same s6, s6 _ _ hw, c0, u0, u3, hps, ho1, fun lq vq G7 n7 s7 hlq hvq => ?_⟩
              have hvl := hvq.length
              have hsl := steps_len rows sl cl up r k
              refine ⟨lq, rfl, ⟨vq, SqL.of hlq⟩, vq.length, fun j ys σ' G8 => j ≤ vq.length ∧ (∃ v0, σ' = [v0, some (.ref pg)]) ∧ Same G7 G8 ∧ ys = foundQ rows sl cl up r k r' k' j, ⟨Nat.zero_le _, ⟨none, rfl⟩, Same.refl _, rfl⟩, ?_⟩
              rintro j ys σ' G8 ⟨hj, ⟨v0, rfl⟩, sG8, rfl⟩
              refine ⟨Nat.lt_of_le_of_lt found_len (Nat.lt_of_le_of_lt (show j ≤ 9 by omega) (by decide)), ?_⟩
              by_cases hjl : j < vq.length
              · refine .inr ⟨⟨vq, vq[j], SqL.of (sG8 _ _ hlq), List.getElem?_eq_getElem hjl⟩, hjl, fun v G' y => ?_⟩
                obtain ⟨rfl, hy⟩ := y
                obtain ⟨st, hst1, pst, u, rfl, hpst, pu, rfl, hpu⟩ := paired_at hvq (hy vq (SqL.of (sG8 _ _ hlq)))
                have hpst8 := sG8 _ _ hpst
                refine ⟨_, rfl, pst, [.ref pu, .int st.2], 0, .ref pu, rfl, rfl, SqT.of hpst8, atI_nat (j := 0) rfl, _, rfl, pu, pg, [st.1.1, st.1.2], [r', k'], rfl, rfl, SqT.of (sG8 _ _ hpu), SqT.of (sG8 _ _ (s7 _ _ hpg)), _, rfl, ?_⟩
                have ed2 : (id (decide (([st.1.1, st.1.2] : List Int) = [r', k'])) = true) ↔ st.1 = (r', k') := by
                  show decide _ = true ↔ _
                  rw [decide_eq_true_iff]
                  constructor
                  · intro z
                    injection z with z1 z2
                    injection z2 with z2 _
                    rw [← z1, ← z2]
                  · intro z
                    rw [z]
                have es := found_succ (r' := r') (k' := k') hst1
                refine ite2 (fun hb => ?_) (fun hb => ?_)
                · refine ⟨_, rfl, pst, [.ref pu, .int st.2], 1, .int st.2, rfl, rfl, SqT.of hpst8, atI_nat (j := 1) rfl, hjl, ⟨_, rfl⟩, sG8, ?_⟩
                  rw [es, if_pos (ed2.mp hb)]
                · refine ⟨hjl, ⟨_, rfl⟩, sG8, ?_⟩
                  rw [es, if_neg (fun z => hb (ed2.mpr z)), List.append_nil]
              · refine .inl ⟨⟨vq, SqL.of (sG8 _ _ hlq), by omega⟩, fun pf hpf => ?_⟩
                have hfa : ∃ cb : Option Int, costAt rows sl cl up qs i = cb ∧ foundQ rows sl cl up r k r' k' j = cb.toList.map V.int := ⟨_, ec, found_all ho2 (show (stepsQ rows sl cl up r k).length ≤ j by omega)⟩
                obtain ⟨cb, ecb, hfa⟩ := hfa
                rw [hfa]
                have s9 := same_upd (o := .lst (cb.toList.map V.int)) hpf
                have hpf9 : (upd G8 pf (.lst (cb.toList.map V.int))) pf = some (.lst (cb.toList.map V.int)) := upd_same
                have S9 := ((s6.trans s7).trans sG8).trans s9
                refine ⟨_, rfl, (by decide), fun pn3 hn3 => ?_⟩
                have s10 := same_upd (o := .lst []) hn3
                refine ⟨pf, pn3, _, rfl, rfl, SqL.of (s10 _ _ hpf9), SqL.of upd_same, _, rfl, ?_⟩
                cases cb with
                | none =>
                  refine iteT ?_
                  have ed3 : d = none := by
                    rw [ed]
                    refine sumTo_stuck (i := i + 1) ?_ _ (by omega)
                    unfold Cw.sumTo
                    rw [hst, ecb]
                    rfl
                  rw [ed3] at q
                  exact q _ (S9.trans s10)
                | some n =>
                  refine iteF ⟨_, rfl, _, rfl, pf, _, 0, .int n, rfl, rfl, SqL.of (s10 _ _ hpf9), atI_nat (j := 0) rfl, _, _, rfl, rfl, ?_⟩
                  refine ⟨t + n, _, _, _, rfl, S9.trans s10, s10 _ _ (s9 _ _ (sG8 _ _ (s7 _ _ ((same_upd hpp) _ _ hlt5)))), ?_⟩
                  unfold Cw.sumTo
                  rw [hst, ecb]
                  rfl
            · rintro σ G ⟨t, v5, v6, v7, rfl, sG5, hlt5, hst⟩
              rw [List.length_drop, hql] at hst
              have hol2 : os.length = qs.length := by omega
              rw [ed, hol2, hst] at q
              exact ⟨_, rfl, q G sG5⟩
end
end K03


set_option maxHeartbeats 4000000
namespace K03
open PySem L2 Cw
/-- the classes that the law asks for: the exception is a NoWay -/
structure Kinds (K : PySem.W.Frag) (mg : Str → Option Value) (C Dc : Addr) : Prop where
  x : XCls K C
  isi : mg "isinstance" = none
  val : mg "ValueError" = none
  sign : ∃ c, mg "NoSign" = some (.ref c) ∧ PySem.W.kitOne K (.ref C) (.ref c) = some false
  size : ∃ c, mg "NoSize" = some (.ref c) ∧ PySem.W.kitOne K (.ref C) (.ref c) = some false
  spot : ∃ c, mg "NoSpot" = some (.ref c) ∧ PySem.W.kitOne K (.ref C) (.ref c) = some false
  way : mg "NoWay" = some (.ref C) ∧ PySem.W.kitOne K (.ref C) (.ref C) = some true
  err : mg "FloorError" = some (.ref Dc) ∧ PySem.W.kitOne K (.ref C) (.ref Dc) = some true
  vk : PySem.W.kitOne K (.ref C) (.type "ValueError") = some true
def spWord (C : Addr) : Sp := fun vs H Q _ => ∃ a : Addr, vs = [.ref a] ∧ H a = some (excO a C) ∧ ∀ H', Same H H' → Q (.str "no way") H'
def dueV : Option Int → V
  | none => .str "no way"
  | some n => .int n
def spTried : Sp := fun vs H Q _ => ∃ (a pw : Addr) (x : V) (rows : List Str) (c : Nat) (sl : Bool) (cl up : Int) (d : Option Int), vs = [.ref a, .ref pw, x] ∧ FloorAt H a rows c ∧ H pw = some (.tup [.bl sl, .int cl, .int up]) ∧ 0 ≤ up ∧ up ≤ 3 ∧
  ThIs rows sl cl up H x d ∧ ∀ H', Same H H' → Q (dueV d) H'
section
variable {P : Program} {w : World} {K : PySem.W.Frag} {mg : Str → Option Value} {base : Heap} {C Dc : Addr}
abbrev NWd : List Str := ["_law_kept", "_law_kinds"]
theorem scWd : FnScope NWd ["_law_kept"] (defScope lWord) := ⟨rfl, rfl, rfl, by decide +kernel, rfl, by decide +kernel, by decide +kernel⟩
theorem ok_word {f : Addr} {fd : FuncData} (F : Fun K "_law_word" "_law_word" lWord f fd) (T : Kinds K mg C Dc) : FnOk P w K mg base CX0 3 f fd ["_law_kept"] (spWord C) := by
  refine F.ok scWd (fun vs H Q E h => ?_) (fun cdv A outer s H vs Q E hr h => ?_)
  · obtain ⟨a, rfl, _⟩ := h
    rfl
  · obtain ⟨a, rfl, ha, q⟩ := h
    obtain ⟨c1, m1, k1⟩ := T.sign
    obtain ⟨c2, m2, k2⟩ := T.size
    obtain ⟨c3, m3, k3⟩ := T.spot
    obtain ⟨m4, k4⟩ := T.way
    obtain ⟨m5, k5⟩ := T.err
    refine ⟨_, pss_cons (ps_set (i := 1) scWd.nd rfl (Or.inl rfl) (pe_lst
        (pa_cons (pe_callB call_isxC (by rfl) T.isi (by decide +kernel) (pa_cons (pv 0) (pa_cons (pe_globR (by rfl) m1) pa_nil)))
        (pa_cons (pe_callB call_isxC (by rfl) T.isi (by decide +kernel) (pa_cons (pv 0) (pa_cons (pe_globR (by rfl) m2) pa_nil)))
        (pa_cons (pe_callB call_isxC (by rfl) T.isi (by decide +kernel) (pa_cons (pv 0) (pa_cons (pe_globR (by rfl) m3) pa_nil)))
        (pa_cons (pe_callB call_isxC (by rfl) T.isi (by decide +kernel) (pa_cons (pv 0) (pa_cons (pe_globR (by rfl) m4) pa_nil))) pa_nil))))))
      (pss_cons (ps_if (pw_or (pt_cmpR op_ne (pe_bm PySem.F.plainAttrs_list PySem.F.slot_list_count PySem.F.type_list_count mt_countB (pv 1) (pa_cons pe_bl pa_nil)) pe_int (nomark _))
        (pw_or (pt_not (pt_val (pe_callB call_isxT (by rfl) T.isi (by decide +kernel) (pa_cons (pv 0) (pa_cons (pe_tyValueError (by rfl) T.val) pa_nil)))))
          (pw_or1 (pt_not (pt_val (pe_callB call_isxC (by rfl) T.isi (by decide +kernel) (pa_cons (pv 0) (pa_cons (pe_globR (by rfl) m5) pa_nil)))))))).pt
        (pss_one (ps_ret pe_str)) pss_nil)
      (pss_one (ps_ret (pe_ix ix_list (pe_lst (pa_cons pe_str (pa_cons pe_str (pa_cons pe_str (pa_cons pe_str pa_nil)))))
        (pe_bm PySem.F.plainAttrs_list PySem.F.slot_list_index PySem.F.type_list_index mt_indexB (pv 1) (pa_cons pe_bl pa_nil)) (fun _ _ => rfl))))), ?_⟩
    refine ⟨_, rfl, a, C, c1, false, rfl, ha, T.x, k1, _, rfl, a, C, c2, false, rfl, ha, T.x, k2, _, rfl, a, C, c3, false, rfl, ha, T.x, k3, _, rfl, a, C, C, true, rfl, ha, T.x, k4, ?_⟩
    refine ⟨(show 4 ≤ sizeLine by decide), fun l hl => ?_⟩
    have s1 := same_upd (o := .lst [.bl false, .bl false, .bl false, .bl true]) hl
    have hL : (upd H l (.lst [.bl false, .bl false, .bl false, .bl true])) l = some (.lst (([false, false, false, true] : List Bool).map V.bl)) := upd_same
    refine ⟨_, rfl, .inl ⟨rfl, _, SqL.of hL⟩, l, [false, false, false, true], true, rfl, rfl, hL, rfl, _, rfl, ?_⟩
    refine iteF ⟨_, rfl, a, C, "ValueError", true, rfl, s1 _ _ ha, T.x, T.vk, _, rfl, iteF ⟨_, rfl, a, C, Dc, true, rfl, s1 _ _ ha, T.x, k5, _, rfl, iteF ?_⟩⟩
    refine ⟨(show 4 ≤ sizeLine by decide), fun l2 hl2 => ?_⟩
    have s2 := same_upd (o := .lst [.str "no sign", .str "no size", .str "no spot", .str "no way"]) hl2
    refine ⟨_, rfl, .inl ⟨rfl, _, SqL.of (s2 _ _ hL)⟩, l, [false, false, false, true], true, 3, rfl, rfl, s2 _ _ hL, rfl, (by decide), (fun m hm => ?_), ?_⟩
    · match m, hm with
      | 0, _ => rfl
      | 1, _ => rfl
      | 2, _ => rfl
    · exact ⟨l2, _, 3, .str "no way", rfl, rfl, SqL.of upd_same, atI_nat (j := 3) rfl, q _ (s1.trans s2)⟩
abbrev NT : List Str := ["_law_floor_here", "_law_walker_here", "_law_way", "_law_kept", "_law_answer", "e"]
theorem scT : FnScope NT ["_law_floor_here", "_law_walker_here", "_law_way"] (defScope lTried) := ⟨rfl, rfl, rfl, by decide +kernel, rfl, by decide +kernel, by decide +kernel⟩
theorem ok_tried {f fC fW : Addr} {fd fdC fdW : FuncData} (F : Fun K "_law_tried" "_law_tried" lTried f fd)
    (GC : Call2 P w K mg base "cost_of" 10 ["floor", "walker", "way"] (fun vs H Q E => spCostOf vs H Q E ∨ spNoWay C vs H Q E) fC fdC)
    (GW : Call1 P w K mg base "_law_word" 3 ["_law_kept"] (spWord C) fW fdW) (mD : mg "FloorError" = some (.ref Dc)) (hx : PySem.W.exmOne K (.ref C) (.ref Dc) = some true) :
    FnOk P w K mg base CX0 11 f fd ["_law_floor_here", "_law_walker_here", "_law_way"] spTried := by
  refine F.ok scT (fun vs H Q E h => ?_) (fun cdv A outer s H vs Q E hr h => ?_)
  · obtain ⟨a, pw, x, rows, c, sl, cl, up, d, rfl, _⟩ := h
    rfl
  · obtain ⟨a, pw, x, rows, c, sl, cl, up, d, rfl, hf, hw, u0, u3, hth, q⟩ := h
    have hr3 : Room 3 _ := hr.mono (by decide)
    refine ⟨_, pss_cons (ps_set (i := 3) scT.nd rfl (Or.inl rfl) pe_non)
      (pss_cons (ps_set (i := 4) scT.nd rfl (Or.inl rfl) pe_non)
      (pss_cons (ps_try (i := 5) (Dc := Dc) scT.nd rfl rfl rfl rfl (by rfl) mD
        (fun pn xe E' hP => pss_one (ps_set (i := 4) scT.nd rfl (Or.inl rfl)
          (pe_call GC.ok hr (by rfl) GC.m GC.kp GC.b .nil hP (pa_cons (pv 0) (pa_cons (pv 1) (pa_cons (pv 2) pa_nil))))))
        (fun e pn => pss_one (ps_set (i := 3) scT.nd rfl (Or.inl rfl) (pv 5))))
      (pss_cons (ps_if (pt_cmpR op_isN (pv 3) pe_non (nomark _)) (pss_one (ps_ret (pv 4))) pss_nil)
      (pss_one (ps_ret (pe_call GW.ok hr3 (by rfl) GW.m GW.kp GW.b .nil pass0 (pa_cons (pv 3) pa_nil))))))), ?_⟩
    refine ⟨_, rfl, _, rfl, _, rfl, ?_⟩
    cases d with
    | some n =>
      refine .inl ⟨a, pw, x, rows, c, sl, cl, up, n, rfl, hf, hw, u0, u3, hth, fun H' s' => ?_⟩
      refine ⟨_, rfl, rfl, _, rfl, ite2 (fun _ => ?_) (fun z => absurd (decide_eq_true rfl) z)⟩
      exact ⟨_, rfl, q H' s'⟩
    | none =>
      refine .inr ⟨a, pw, x, rows, c, sl, cl, up, rfl, hf, hw, u0, u3, hth, fun e H' s' he => ⟨e, C, rfl, rfl, hx, fun σ' hl => ?_⟩⟩
      match σ', hl with
      | [x0, x1, x2, x3, x4, x5], _ =>
        refine ⟨_, rfl, _, rfl, rfl, _, rfl, ite2 (fun z => absurd (of_decide_eq_true z) (by intro w; cases w)) (fun _ => ?_)⟩
        exact ⟨_, rfl, e, rfl, upd_same, fun H2 s2 => q H2 ((s'.trans (same_upd he)).trans s2)⟩
end
end K03


set_option maxHeartbeats 4000000
namespace Cw
open PySem L2
theorem steps_mem {rows : List Str} {sl : Bool} {cl up r k : Int} {st : (Int × Int) × Int} (h : st ∈ stepsQ rows sl cl up r k) : openB rows st.1.1 st.1.2 = true ∧ costB rows sl cl up r k st.1.1 st.1.2 = some st.2 := by
  unfold stepsQ at h
  obtain ⟨q, hq, e⟩ := List.mem_filterMap.mp h
  unfold stepQ at e
  cases ec : costB rows sl cl up r k q.1 q.2 with
  | none => rw [ec] at e; cases e
  | some n =>
    rw [ec] at e
    have e' := Option.some.inj e
    subst e'
    exact ⟨aroundQ_open rows r k 3 q hq, ec⟩
theorem costAt_left {rows : List Str} {sl : Bool} {cl up : Int} {qs ps : List (Int × Int)} {j : Nat} (h : j + 1 < qs.length) : costAt rows sl cl up (qs ++ ps) j = costAt rows sl cl up qs j := by
  unfold costAt
  rw [List.getD_eq_getElem?_getD, List.getD_eq_getElem?_getD, List.getD_eq_getElem?_getD, List.getD_eq_getElem?_getD, List.getElem?_append_left (by omega), List.getElem?_append_left (by omega)]
theorem sumTo_left {rows : List Str} {sl : Bool} {cl up : Int} {qs ps : List (Int × Int)} : ∀ i, i < qs.length → Cw.sumTo rows sl cl up (qs ++ ps) i = Cw.sumTo rows sl cl up qs i
  | 0, _ => rfl
  | i + 1, h => by
    unfold Cw.sumTo
    rw [sumTo_left i (by omega), costAt_left h]
theorem costAt_end {rows : List Str} {sl : Bool} {cl up : Int} {qs : List (Int × Int)} {q q' : Int × Int} : costAt rows sl cl up ((qs ++ [q]) ++ [q']) qs.length = costB rows sl cl up q.1 q.2 q'.1 q'.2 := by
  unfold costAt
  have e1 : ((qs ++ [q]) ++ [q'])[qs.length]? = some q := by rw [List.append_assoc, List.getElem?_append_right (Nat.le_refl _), Nat.sub_self]; rfl
  have e2 : ((qs ++ [q]) ++ [q'])[qs.length + 1]? = some q' := by rw [List.getElem?_append_right (by simp)]; simp
  rw [List.getD_eq_getElem?_getD, List.getD_eq_getElem?_getD, e1, e2]
  rfl
/-- a step more -/
theorem sumTo_more {rows : List Str} {sl : Bool} {cl up : Int} {qs : List (Int × Int)} {q q' : Int × Int} {n : Int} (h : (Cw.sumTo rows sl cl up (qs ++ [q]) qs.length).isSome = true) (hc : costB rows sl cl up q.1 q.2 q'.1 q'.2 = some n) :
    (Cw.sumTo rows sl cl up ((qs ++ [q]) ++ [q']) (qs.length + 1)).isSome = true := by
  unfold Cw.sumTo
  rw [sumTo_left qs.length (by simp), costAt_end, hc]
  cases e : Cw.sumTo rows sl cl up (qs ++ [q]) qs.length with
  | none => rw [e] at h; cases h
  | some t => rfl
theorem paired_split_last {α β : Type} {R : α → β → Prop} {xs : List α} {ys : List β} {y : β} (h : Paired R xs (ys ++ [y])) : ∃ xs' x, xs = xs' ++ [x] ∧ Paired R xs' ys ∧ R x y := by
  induction ys generalizing xs with
  | nil =>
    cases h with
    | cons r t => cases t; exact ⟨[], _, rfl, .nil, r⟩
  | cons z zs ih =>
    cases h with
    | cons r t =>
      obtain ⟨xs', x, rfl, h1, h2⟩ := ih t
      exact ⟨_ :: xs', x, rfl, .cons r h1, h2⟩
end Cw
namespace K03
open PySem L2 Cw
abbrev lWalked : Stmt := top 36
def WayOk (rows : List Str) (sl : Bool) (cl up : Int) (qs : List (Int × Int)) : Prop := ∃ ps q, qs = ps ++ [q] ∧ ps.length ≤ 8 ∧ (∀ q ∈ qs, openB rows q.1 q.2 = true) ∧ (Cw.sumTo rows sl cl up qs ps.length).isSome = true
def spWalked (K : PySem.W.Frag) : Sp := fun vs H Q _ => ∃ (b a pw p0 : Addr) (ns : List Int) (at_ : Int) (rows : List Str) (c : Nat) (sl : Bool) (cl up r k : Int), vs = [.ref b, .int at_, .ref a, .ref pw, .ref p0] ∧ SqL K H b (ns.map V.int) ∧ 0 ≤ at_ ∧ at_ < 1000 ∧ FloorAt H a rows c ∧ H pw = some (.tup [.bl sl, .int cl, .int up]) ∧
  0 ≤ cl ∧ 0 ≤ up ∧ up ≤ 3 ∧ H p0 = some (.tup [.int r, .int k]) ∧ openB rows r k = true ∧ ∀ l xs qs H', Same H H' → H' l = some (.lst xs) → IsSps H' xs qs → WayOk rows sl cl up qs → Q (.ref l) H'
section
variable {P : Program} {w : World} {K : PySem.W.Frag} {mg : Str → Option Value} {base : Heap}
abbrev NWk : List Str := ["_law_script", "_law_at", "_law_floor_here", "_law_walker_here", "_law_start", "_law_way", "_law_k", "_law_steps_here"]
theorem scWk : FnScope NWk ["_law_script", "_law_at", "_law_floor_here", "_law_walker_here", "_law_start"] (defScope lWalked) := ⟨rfl, rfl, rfl, by decide +kernel, rfl, by decide +kernel, by decide +kernel⟩
theorem ok_walked {f fP fS : Addr} {fd fdP fdS : FuncData} (F : Fun K "_law_walked" "_law_walked" lWalked f fd) (T : Tx mg) (GP : Call1 P w K mg base "_law_pick" 2 ["_law_script", "_law_k", "_law_many"] (spPick K) fP fdP)
    (GS : Call1 P w K mg base "_law_steps" 2 ["_law_floor_here", "_law_walker_here", "_law_spot"] spLSteps fS fdS) : FnOk P w K mg base CX0 3 f fd ["_law_script", "_law_at", "_law_floor_here", "_law_walker_here", "_law_start"] (spWalked K) := by
  refine F.ok scWk (fun vs H Q E h => ?_) (fun cdv A outer s H vs Q E hr h => ?_)
  · obtain ⟨b, a, pw, p0, ns, at_, rows, c, sl, cl, up, r, k, rfl, _⟩ := h
    rfl
  · obtain ⟨b, a, pw, p0, ns, at_, rows, c, sl, cl, up, r0, k0, rfl, hS, a0, a1, hf, hw, c0, u0, u3, hp0, ho0, q⟩ := h
    refine ⟨_, pss_cons (ps_set (i := 5) scWk.nd rfl (Or.inl rfl) (pe_lst (pa_cons (pv 4) pa_nil)))
      (pss_cons (ps_for PassesOwn.never rfl (pi_range1 (by rfl) T.range (pa_cons (pe_call GP.ok hr (by rfl) GP.m GP.kp GP.b .nil pass0 (pa_cons (pv 0) (pa_cons (pv 1) (pa_cons pe_int pa_nil)))) pa_nil)) (pg_name (i := 6) scWk.nd rfl (Or.inl rfl))
        (pss_cons (ps_set (i := 7) scWk.nd rfl (Or.inl rfl) (pe_call GS.ok hr (by rfl) GS.m GS.kp GS.b .nil pass0 (pa_cons (pv 2) (pa_cons (pv 3) (pa_cons (pe_ix ix_list (pv 5) (pe_un un_neg pe_int) (fun _ _ => rfl)) pa_nil)))))
        (pss_one (ps_if (pt_cmpR (op_ne_nil hr.units0) (pv 7) (pe_lst pa_nil) (nomark _))
          (pss_one (ps_expr (pe_bm PySem.F.plainAttrs_list PySem.F.slot_list_append PySem.F.type_list_append mt_append (pv 5) (pa_cons (pe_ix ix_tup (pe_ix ix_list (pv 7)
            (pe_call GP.ok hr (by rfl) GP.m GP.kp GP.b .nil pass0 (pa_cons (pv 0) (pa_cons (pe_op op_add (pe_op op_add (pv 1) pe_int) (pv 6)) (pa_cons (pe_callB call_len_seq (by rfl) T.len PySem.boot_len (pa_cons (pv 7) pa_nil)) pa_nil)))) (fun _ _ => rfl)) pe_int (fun _ _ => rfl)) pa_nil)))) pss_nil))))
      (pss_one (ps_ret (pv 5)))), ?_⟩
    refine ⟨_, rfl, (show 1 ≤ sizeLine by decide), fun l hl => ?_⟩
    have s0 := same_upd (o := .lst [.ref p0]) hl
    have keep : ∀ {G : Hp} {o : HO}, Same H G → Same H (upd G l o) := fun {G o} s' b u e => by rw [upd_ne (ne_of_none e hl)]; exact s' b u e
    refine ⟨_, rfl, _, rfl, b, ns, at_, 9, rfl, s0.seq hS, a0, by omega, by omega, fun v H1 v0 v9 s1 => ⟨v, rfl, by omega, by omega, ?_⟩⟩
    have hn : ∃ n : Nat, v.toNat = n ∧ n ≤ 8 := ⟨_, rfl, by omega⟩
    obtain ⟨n, en, hn8⟩ := hn
    rw [en]
    refine for_range (lo := 0) (n := n) (fun i σ G => ∃ (xs : List V) (ps : List (Int × Int)) (q : Int × Int) (v6 v7 : Option V), σ = [some (.ref b), some (.int at_), some (.ref a), some (.ref pw), some (.ref p0), some (.ref l), v6, v7] ∧ Same H G ∧ G l = some (.lst xs) ∧ IsSps G xs (ps ++ [q]) ∧ ps.length ≤ i ∧
      (∀ q' ∈ ps ++ [q], openB rows q'.1 q'.2 = true) ∧ (Cw.sumTo rows sl cl up (ps ++ [q]) ps.length).isSome = true)
      ⟨[.ref p0], [], (r0, k0), none, none, rfl, s0.trans s1, s1 _ _ upd_same, .cons ⟨p0, rfl, s1 _ _ (s0 _ _ hp0)⟩ .nil, Nat.le_refl _, (fun q' hq' => by rw [List.mem_singleton.mp hq']; exact ho0), rfl⟩ ?_ ?_
    · rintro i σ G hi ⟨xs, ps, ⟨r, k⟩, v6, v7, rfl, sG, hGl, hv, hpl, hop, hsm⟩
      obtain ⟨xs', x, rfl, hv', pl, rfl, hpl'⟩ := paired_split_last hv
      have hol : openB rows r k = true := hop (r, k) (by simp)
      have hxl := hv.length
      refine ⟨_, rfl, _, rfl, _, rfl, 1, rfl, l, _, -1, .ref pl, rfl, rfl, SqL.of hGl, atI_last xs' _, a, pw, pl, rows, c, sl, cl, up, r, k, rfl, hf.same sG, sG _ _ hw, c0, u0, u3, hpl', hol, fun ls vls G2 nls s2 hls hvls => ?_⟩
      have hsl := steps_len rows sl cl up r k
      have hvl := hvls.length
      refine ⟨_, rfl, (by decide), fun pn hpn => ?_⟩
      have s3 := s2.trans (same_upd (o := .lst []) hpn)
      have t3 := same_upd (o := .lst []) hpn
      refine ⟨ls, pn, vls, rfl, rfl, SqL.of (t3 _ _ hls), SqL.of upd_same, _, rfl, ?_⟩
      refine ite2 (fun h0 => ?_) (fun h0 => ?_)
      · have hne : 0 < vls.length := by
          cases vls with
          | nil => cases h0
          | cons _ _ => simp
        refine ⟨_, rfl, .inl ⟨rfl, _, SqL.of (s3 _ _ hGl)⟩, _, rfl, _, rfl, _, rfl, _, _, rfl, rfl, _, rfl, _, _, rfl, rfl, _, rfl, ls, vls, rfl, .inl (SqL.of (t3 _ _ hls)), b, ns, _, _, rfl, (sG.trans s3).seq hS, by omega, by omega, by omega, fun v G4 v0 v9 s4 => ?_⟩
        have hj : v.toNat < vls.length := by omega
        obtain ⟨st, hst, pst, u, eu, hpst, pu, rfl, hpu⟩ := paired_at hvls (List.getElem?_eq_getElem hj)
        have hm := steps_mem (List.mem_of_getElem? hst)
        have S4 := s3.trans s4
        have t4 := t3.trans s4
        refine ⟨ls, vls, v, .ref pst, rfl, rfl, SqL.of (t4 _ _ hls), atI_int v0 (by rw [List.getElem?_eq_getElem hj, eu]), pst, _, 0, .ref pu, rfl, rfl, SqT.of (t4 _ _ hpst), atI_nat (j := 0) rfl, ?_⟩
        have hG4 := S4 _ _ hGl
        refine ⟨l, _, _, rfl, rfl, hG4, Nat.lt_of_le_of_lt (show _ ≤ 1000 by simp at hxl ⊢; omega) (by decide), ?_⟩
        refine ⟨_, ps ++ [(r, k)], st.1, _, _, rfl, keep (sG.trans S4), upd_same, IsSps.updL hG4 ((hv.same S4).snoc ⟨pu, rfl, t4 _ _ hpu⟩), by rw [List.length_append]; show ps.length + 1 ≤ i + 1; omega, fun q' hq' => ?_, ?_⟩
        · rcases List.mem_append.mp hq' with z | z
          · exact hop q' z
          · rw [List.mem_singleton.mp z]; exact hm.1
        · rw [List.length_append]
          exact sumTo_more hsm hm.2
      · exact ⟨_, ps, (r, k), _, _, rfl, sG.trans s3, s3 _ _ hGl, hv.same s3, by omega, hop, hsm⟩
    · rintro σ G ⟨xs, ps, q0, v6, v7, rfl, sG, hGl, hv, hpl, hop, hsm⟩
      exact ⟨_, rfl, q l xs _ G sG hGl hv ⟨ps, q0, rfl, by omega, hop, hsm⟩⟩
end
end K03


set_option maxHeartbeats 4000000
namespace Cw
open PySem L2
/-- a thing that is_way may be asked of; its list, if it is one, is new since H0 -/
def Good (H0 G : Hp) (v : V) : Prop := v = .non ∨ (∃ p xs, v = .ref p ∧ G p = some (.tup xs)) ∨ ∃ p xs os, v = .ref p ∧ H0 p = none ∧ G p = some (.lst xs) ∧ Paired (El G) xs os ∧ xs.length ≤ 100
theorem Good.same {H0 G G' : Hp} (s : Same G G') {v : V} (h : Good H0 G v) : Good H0 G' v := by
  rcases h with h | ⟨p, xs, e, h⟩ | ⟨p, xs, os, e, h0, h, hv, hl⟩
  · exact .inl h
  · exact .inr (.inl ⟨p, xs, e, s _ _ h⟩)
  · exact .inr (.inr ⟨p, xs, os, e, h0, s _ _ h, Paired.mapP hv fun _ _ z => z.same s, hl⟩)
def YV (te : TE) (σ : St) (H0 : Hp) : Prop := ∀ H, Same H0 H → ∀ Q : VK, (∀ v G, Same H G → Good H0 G v → Q v G) → te σ H Q
def YL (n : Nat) (te : TE) (σ : St) (H0 : Hp) : Prop := ∀ H, Same H0 H → ∀ Q : VK, (∀ l xs os G, Same H G → H l = none → G l = some (.lst xs) → Paired (El G) xs os → xs.length ≤ n → Q (.ref l) G) → te σ H Q
def YA (n : Nat) (ta : TA) (σ : St) (H0 : Hp) : Prop := ∀ H, Same H0 H → ∀ Q : List V → Hp → Prop, (∀ vs G, Same H G → vs.length = n → (∀ v ∈ vs, Good H0 G v) → Q vs G) → ta σ H Q
section
variable {σ : St} {H0 : Hp} {ta tb te : TE} {tr : TA} {n m : Nat}
theorem YL.toV (h : YL n te σ H0) (hn : n ≤ 100) : YV te σ H0 := fun H s Q k => h H s Q fun l xs os G sG hl hG hv hx => k _ G sG (.inr (.inr ⟨l, xs, os, rfl, s.free hl, hG, hv, Nat.le_trans hx hn⟩))
theorem YA.nil : YA 0 tNil σ H0 := fun H s Q k => k [] H (Same.refl H) rfl fun v h => by cases h
theorem YA.cons (h1 : YV te σ H0) (h2 : YA n tr σ H0) : YA (n + 1) (tCons te tr) σ H0 := fun H s Q k => h1 H s _ fun v G sG hv => h2 G (s.trans sG) _ fun vs G2 s2 hl hvs => k (v :: vs) G2 (sG.trans s2) (by rw [List.length_cons, hl]) fun y hy => by
  rcases List.mem_cons.mp hy with z | z
  · rw [z]; exact hv.same s2
  · exact hvs y z
theorem YA.lst (h : YA n tr σ H0) (hn : n ≤ 1000) : ∀ H, Same H0 H → ∀ Q : VK, (∀ vs G p, Same H G → G p = none → vs.length = n → (∀ v ∈ vs, Good H0 G v) → Q (.ref p) (upd G p (.lst vs))) → tLst tr σ H Q := fun H s Q k => h H s _ fun vs G sG hl hg =>
  ⟨Nat.le_trans (show vs.length ≤ 1000 by omega) (by decide), fun p hp => k vs G p sG hp hl hg⟩
theorem YA.lst1 (h : YA n tr σ H0) (hn : n ≤ 1000) : ∀ H, Same H0 H → ∀ Q : List V → Hp → Prop, (∀ vs G p, Same H G → G p = none → vs.length = n → (∀ v ∈ vs, Good H0 G v) → Q [.ref p] (upd G p (.lst vs))) → tCons (tLst tr) tNil σ H Q := fun H s Q k => h H s _ fun vs G sG hl hg =>
  ⟨Nat.le_trans (show vs.length ≤ 1000 by omega) (by decide), fun p hp => k vs G p sG hp hl hg⟩
theorem YL.cat (h1 : YL n ta σ H0) (h2 : YL m tb σ H0) (hn : n + m ≤ 100) : YL (n + m) (tOp rCat ta tb) σ H0 := fun H s Q k => h1 H s _ fun l xs os G sG hl hG hv hx => h2 G (s.trans sG) _ fun l2 xs2 os2 G2 s2 hl2 hG2 hv2 hx2 =>
  ⟨l, l2, xs, xs2, rfl, rfl, s2 _ _ hG, hG2, Nat.le_trans (show xs.length + xs2.length ≤ 100 by omega) (by decide), fun p hp => k p (xs ++ xs2) (os ++ os2) _ ((sG.trans s2).trans (same_upd hp)) (sG.free (s2.free hp)) upd_same
    (paired_append (Paired.mapP hv fun _ _ z => (z.same s2).same (same_upd hp)) (Paired.mapP hv2 fun _ _ z => z.same (same_upd hp))) (by rw [List.length_append]; omega)⟩
/-- [x] -/
theorem YL.one (h : ∀ H, Same H0 H → ∀ Q : VK, (∀ v o G, Same H G → El G v o → Q v G) → te σ H Q) : YL 1 (tLst (tCons te tNil)) σ H0 := fun H s Q k => h H s _ fun v o G sG hv =>
  ⟨(show 1 ≤ sizeLine by decide), fun p hp => k p [v] [o] _ (sG.trans (same_upd hp)) (sG.free hp) upd_same (.cons (hv.same (same_upd hp)) .nil) (Nat.le_refl 1)⟩
theorem paired_take {α β : Type} {R : α → β → Prop} : ∀ {xs : List α} {ys : List β}, Paired R xs ys → ∀ k, Paired R (xs.take k) (ys.take k)
  | _, _, .nil, k => by rw [List.take_nil, List.take_nil]; exact .nil
  | _, _, .cons r t, 0 => .nil
  | _, _, .cons r t, k + 1 => .cons r (paired_take t k)
theorem paired_drop {α β : Type} {R : α → β → Prop} : ∀ {xs : List α} {ys : List β}, Paired R xs ys → ∀ k, Paired R (xs.drop k) (ys.drop k)
  | _, _, .nil, k => by rw [List.drop_nil, List.drop_nil]; exact .nil
  | _, _, .cons r t, 0 => .cons r t
  | _, _, .cons r t, k + 1 => paired_drop t k
/-- a slice of a list of spots -/
theorem cut_els {G : Hp} {xs : List V} {qs : List (Int × Int)} (hv : IsSps G xs qs) (hl : xs.length ≤ 9) (lo hi : Option Int) : ∃ os, Paired (El G) (cutV xs lo hi) os ∧ (cutV xs lo hi).length ≤ 9 := by
  unfold cutV
  refine ⟨_, paired_take (paired_drop (els_of hv) _) _, ?_⟩
  rw [List.length_take, List.length_drop]
  omega
end
/-- the same, apart from one list that goes on growing -/
def GdX (pS : Addr) (G : Hp) (v : V) : Prop := v = .non ∨ (∃ p xs, v = .ref p ∧ G p = some (.tup xs)) ∨ ∃ p xs os, v = .ref p ∧ p ≠ pS ∧ G p = some (.lst xs) ∧ Paired (El G) xs os ∧ xs.length ≤ 100
theorem GdX.same {pS : Addr} {G G' : Hp} (s : Same G G') {v : V} (h : GdX pS G v) : GdX pS G' v := by
  rcases h with h | ⟨p, xs, e, h⟩ | ⟨p, xs, os, e, h0, h, hv, hl⟩
  · exact .inl h
  · exact .inr (.inl ⟨p, xs, e, s _ _ h⟩)
  · exact .inr (.inr ⟨p, xs, os, e, h0, s _ _ h, Paired.mapP hv fun _ _ z => z.same s, hl⟩)
theorem El.updL {H : Hp} {l : Addr} {ys zs : List V} (h : H l = some (.lst ys)) {v : V} {o : Option (Int × Int)} (z : El H v o) : El (upd H l (.lst zs)) v o := by
  have ne : ∀ {p : Addr} {xs : List V}, H p = some (.tup xs) → p ≠ l := fun {p xs} e z => by rw [z, h] at e; cases e
  cases z with
  | spot e => exact .spot (by rw [upd_ne (ne e)]; exact e)
  | non => exact .non
  | one e => exact .one (by rw [upd_ne (ne e)]; exact e)
  | txt e => exact .txt (by rw [upd_ne (ne e)]; exact e)
  | @lst p xs e =>
    by_cases hp : p = l
    · subst hp; exact .lst upd_same
    · exact .lst (by rw [upd_ne hp]; exact e)
theorem GdX.updL {pS : Addr} {G : Hp} {ys zs : List V} (hS : G pS = some (.lst ys)) {v : V} (h : GdX pS G v) : GdX pS (upd G pS (.lst zs)) v := by
  rcases h with h | ⟨p, xs, e, h⟩ | ⟨p, xs, os, e, h0, h, hv, hl⟩
  · exact .inl h
  · exact .inr (.inl ⟨p, xs, e, by rw [upd_ne (fun z => by rw [z, hS] at h; cases h)]; exact h⟩)
  · exact .inr (.inr ⟨p, xs, os, e, h0, by rw [upd_ne h0]; exact h, Paired.mapP hv fun _ _ z => z.updL hS, hl⟩)
theorem Good.toX {pS : Addr} {H0 G : Hp} {v : V} (h : Good H0 G v) (hp : ∀ p, H0 p = none → ∀ o, G p = some o → p ≠ pS) : GdX pS G v := by
  rcases h with h | ⟨p, xs, e, h⟩ | ⟨p, xs, os, e, h0, h, hv, hl⟩
  · exact .inl h
  · exact .inr (.inl ⟨p, xs, e, h⟩)
  · exact .inr (.inr ⟨p, xs, os, e, hp p h0 _ h, h, hv, hl⟩)
theorem GdX.th {pS : Addr} {G : Hp} {v : V} (h : GdX pS G v) (rows : List Str) (sl : Bool) (cl up : Int) : ∃ d, ThIs rows sl cl up G v d := by
  rcases h with h | ⟨p, xs, e, h⟩ | ⟨p, xs, os, e, h0, h, hv, hl⟩
  · subst h; exact ⟨none, .non⟩
  · subst e; exact ⟨none, .tup h⟩
  · subst e; exact ⟨_, .lst h hv hl rfl⟩
end Cw
namespace K03
open PySem L2 Cw
abbrev lSpoilt : Stmt := top 37
def spSpoilt (K : PySem.W.Frag) : Sp := fun vs H Q _ => ∃ (b a l : Addr) (ns : List Int) (at_ : Int) (rows : List Str) (c : Nat) (xs : List V) (qs : List (Int × Int)), vs = [.ref b, .int at_, .ref a, .ref l] ∧ SqL K H b (ns.map V.int) ∧ 0 ≤ at_ ∧ at_ < 900 ∧ FloorAt H a rows c ∧ H l = some (.lst xs) ∧ IsSps H xs qs ∧ xs ≠ [] ∧ xs.length ≤ 9 ∧ (∀ q ∈ qs, openB rows q.1 q.2 = true) ∧
  ∀ x H', Same H H' → (∀ rows sl cl up, ∃ d, ThIs rows sl cl up H' x d) → Q x H'
section
variable {P : Program} {w : World} {K : PySem.W.Frag} {mg : Str → Option Value} {base : Heap}
abbrev NSp : List Str := ["_law_script", "_law_at", "_law_floor_here", "_law_way", "_law_place", "_law_spot", "_law_some", "_law_drawn"]
theorem scSp : FnScope NSp ["_law_script", "_law_at", "_law_floor_here", "_law_way"] (defScope lSpoilt) := ⟨rfl, rfl, rfl, by decide +kernel, rfl, by decide +kernel, by decide +kernel⟩
theorem ok_spoilt {f fP fA : Addr} {fd fdP fdA : FuncData} (F : Fun K "_law_spoilt" "_law_spoilt" lSpoilt f fd) (T : Tx mg) (TW : TxW mg) (hStr : mg "str" = none) (GP : Call1 P w K mg base "_law_pick" 2 ["_law_script", "_law_k", "_law_many"] (spPick K) fP fdP)
    (GA : Call1 P w K mg base "_law_any_spot" 3 ["_law_script", "_law_at", "_law_floor_here"] (spLAny K) fA fdA) : FnOk P w K mg base CX0 4 f fd ["_law_script", "_law_at", "_law_floor_here", "_law_way"] (spSpoilt K) := by
  refine F.ok scSp (fun vs H Q E h => ?_) (fun cdv A outer s H vs Q E hr h => ?_)
  · obtain ⟨b, a, l, ns, at_, rows, c, xs, qs, rfl, _⟩ := h
    rfl
  · obtain ⟨b, a, l, ns, at_, rows, c, xs, qs, rfl, hS, a0, a1, hf, hl, hv, hxe, hxl, hop, q⟩ := h
    have hr2 : Room 2 _ := hr.mono (by decide)
    refine ⟨_, pss_cons (ps_set (i := 4) scSp.nd rfl (Or.inl rfl) (pe_call GP.ok hr2 (by rfl) GP.m GP.kp GP.b .nil pass0 (pa_cons (pv 0) (pa_cons (pv 1) (pa_cons (pe_callB call_len_seq (by rfl) T.len PySem.boot_len (pa_cons (pv 3) pa_nil)) pa_nil)))))
      (pss_cons (ps_set (i := 5) scSp.nd rfl (Or.inl rfl) (pe_call GA.ok hr (by rfl) GA.m GA.kp GA.b .nil pass0 (pa_cons (pv 0) (pa_cons (pe_op op_add (pv 1) pe_int) (pa_cons (pv 2) pa_nil)))))
      (pss_cons (ps_set (i := 6) scSp.nd rfl (Or.inl rfl) (pe_lst
        (pa_cons (pe_op op_cat (pe_op op_cat (pe_slice sl_list (pv 3) po_none (po_some (pv 4))) (pe_lst (pa_cons (pv 5) pa_nil))) (pe_slice sl_list (pv 3) (po_some (pv 4)) po_none))
        (pa_cons (pe_op op_cat (pe_slice sl_list (pv 3) po_none (po_some (pv 4))) (pe_slice sl_list (pv 3) (po_some (pe_op op_add (pv 4) pe_int)) po_none))
        (pa_cons (pe_op op_cat (pe_op op_cat (pe_slice sl_list (pv 3) po_none (po_some (pv 4))) (pe_lst (pa_cons (pv 5) pa_nil))) (pe_slice sl_list (pv 3) (po_some (pe_op op_add (pv 4) pe_int)) po_none)) pa_nil)))))
      (pss_cons (ps_expr (pe_bm PySem.F.plainAttrs_list PySem.F.slot_list_extend PySem.F.type_list_extend mt_extend (pv 6) (pa_cons (pe_lst
        (pa_cons (pe_callTy call_tuple_of (by rfl) T.tuple (by decide +kernel) (pa_cons (pv 3) pa_nil))
        (pa_cons (pe_lst pa_nil)
        (pa_cons pe_non
        (pa_cons (pe_op op_cat (pv 3) (pe_lst (pa_cons pe_non pa_nil)))
        (pa_cons (pe_op op_cat (pv 3) (pe_lst (pa_cons (pe_tup (pa_cons pe_int pa_nil)) pa_nil)))
        (pa_cons (pe_op op_cat (pe_op op_cat (pe_slice sl_list (pv 3) po_none (po_some (pv 4))) (pe_lst (pa_cons (pe_callTy call_list_of (by rfl) TW.list (by decide +kernel) (pa_cons (pe_ix ix_list (pv 3) (pv 4) (fun _ _ => rfl)) pa_nil)) pa_nil))) (pe_slice sl_list (pv 3) (po_some (pe_op op_add (pv 4) pe_int)) po_none)) pa_nil))))))) pa_nil)))
      (pss_cons (ps_expr (pe_bm PySem.F.plainAttrs_list PySem.F.slot_list_extend PySem.F.type_list_extend mt_extend (pv 6) (pa_cons (pe_lst
        (pa_cons (pe_op op_cat (pv 3) (pe_lst (pa_cons (pe_tup (pa_cons (pe_ix ix_tup (pe_ix ix_list (pv 3) pe_int (fun _ _ => rfl)) pe_int (fun _ _ => rfl)) (pa_cons (pe_callTy call_str_int (by rfl) hStr (by decide +kernel) (pa_cons (pe_ix ix_tup (pe_ix ix_list (pv 3) pe_int (fun _ _ => rfl)) pe_int (fun _ _ => rfl)) pa_nil)) pa_nil))) pa_nil)))
        (pa_cons (pe_lst (pa_cons (pv 3) pa_nil))
        (pa_cons (pe_ix ix_list (pv 3) pe_int (fun _ _ => rfl)) pa_nil)))) pa_nil)))
      (pss_cons (ps_set (i := 7) scSp.nd rfl (Or.inl rfl) (pe_call GP.ok hr2 (by rfl) GP.m GP.kp GP.b .nil pass0 (pa_cons (pv 0) (pa_cons (pe_op op_add (pv 1) pe_int) (pa_cons pe_int pa_nil)))))
      (pss_one (ps_ret (pe_ix ix_list (pv 6) (pe_ifExp (pt_cmpR op_lt (pv 7) pe_int (nomark _)) (pv 7) (pe_op op_mod (pv 7) pe_int)) (fun _ _ => rfl))))))))), ?_⟩
    have hx1 : 1 ≤ xs.length := by
      cases xs with
      | nil => exact absurd rfl hxe
      | cons _ _ => simp
    refine ⟨_, rfl, _, rfl, _, rfl, l, xs, rfl, .inl (SqL.of hl), b, ns, at_, _, rfl, hS, a0, by omega, by omega, fun pl H1 pl0 pl1 s1 => ?_⟩
    refine ⟨_, rfl, _, rfl, _, _, rfl, rfl, _, rfl, b, a, ns, at_ + 1, rows, c, rfl, s1.seq hS, hf.same s1, by omega, by omega, fun psp rr kk H2 _ _ _ _ s2 hsp => ?_⟩
    have S2 := s1.trans s2
    have hl2 := S2 _ _ hl
    have hv2 := hv.same S2
    have hop0 : ∃ p0 r0 k0, xs[0]? = some (.ref p0) ∧ H2 p0 = some (.tup [.int r0, .int k0]) ∧ k0.natAbs.log2 < 1920 := by
      obtain ⟨⟨r0, k0⟩, hq, p0, e0, hp0⟩ := paired_get hv2 (List.getElem?_eq_getElem (show 0 < xs.length by omega))
      have ho := hop _ (List.mem_of_getElem? hq)
      obtain ⟨_, _, b2, b3⟩ := onB_true (openB_on hf.ok ho)
      have hcm := hf.ok.cm
      refine ⟨p0, r0, k0, by rw [List.getElem?_eq_getElem (show 0 < xs.length by omega), e0], hp0, ?_⟩
      refine Nat.lt_of_le_of_lt (Nat.log2_le_self _) ?_
      omega
    obtain ⟨p0, r0, k0, hx0, hp0, hk0⟩ := hop0
    obtain ⟨⟨rq, kq⟩, _, pq, epq, hpq⟩ := paired_get hv2 (List.getElem?_eq_getElem (show pl.toNat < xs.length by omega))
    have hxq : atI xs pl = some (.ref pq) := atI_int pl0 (by rw [List.getElem?_eq_getElem (show pl.toNat < xs.length by omega), epq])
    have cutY : ∀ (lo hi : Option Int) (G : Hp) (Q : VK), Same H2 G → (∀ p ys os G', Same G G' → G p = none → G' p = some (.lst ys) → Paired (El G') ys os → ys.length ≤ 9 → Q (.ref p) G') →
        ∀ p, G p = none → Q (.ref p) (upd G p (.lst (cutV xs lo hi))) := fun lo hi G Q sG k p hp => by
      obtain ⟨os, ho, hol⟩ := cut_els (hv2.same sG) hxl lo hi
      exact k p _ os _ (same_upd hp) hp upd_same (Paired.mapP ho fun _ _ z => z.same (same_upd hp)) hol
    have yTake : ∀ {σ : St} {H0 : Hp}, σ[3]? = some (some (.ref l)) → σ[4]? = some (some (.int pl)) → Same H2 H0 → YL 9 (tSl (rSlL K) (tVar 3) tNoPart (tPart (tVar 4))) σ H0 := fun {σ H0} e3 e4 s0 H s Q k =>
      ⟨_, e3, _, e4, pl, rfl, l, xs, rfl, SqL.of ((s0.trans s) _ _ hl2), cutY _ _ H Q (s0.trans s) k⟩
    have yDrop : ∀ {σ : St} {H0 : Hp}, σ[3]? = some (some (.ref l)) → σ[4]? = some (some (.int pl)) → Same H2 H0 → YL 9 (tSl (rSlL K) (tVar 3) (tPart (tVar 4)) tNoPart) σ H0 := fun {σ H0} e3 e4 s0 H s Q k =>
      ⟨_, e3, _, e4, pl, rfl, l, xs, rfl, SqL.of ((s0.trans s) _ _ hl2), cutY _ _ H Q (s0.trans s) k⟩
    have yDrop1 : ∀ {σ : St} {H0 : Hp}, σ[3]? = some (some (.ref l)) → σ[4]? = some (some (.int pl)) → Same H2 H0 → YL 9 (tSl (rSlL K) (tVar 3) (tPart (tOp (rI0 fun i j => .int (i + j)) (tVar 4) (tC (.int 1)))) tNoPart) σ H0 := fun {σ H0} e3 e4 s0 H s Q k =>
      ⟨_, e3, _, e4, _, _, rfl, rfl, _, rfl, l, xs, rfl, SqL.of ((s0.trans s) _ _ hl2), cutY _ _ H Q (s0.trans s) k⟩
    have ySpot : ∀ {σ : St} {H0 : Hp}, σ[5]? = some (some (.ref psp)) → Same H2 H0 → YL 1 (tLst (tCons (tVar 5) tNil)) σ H0 := fun {σ H0} e5 s0 => YL.one fun H s Q k => ⟨_, e5, k _ _ H (Same.refl H) (.spot ((s0.trans s) _ _ hsp))⟩
    have catVar : ∀ {σ : St} {H0 : Hp} {tb : TE}, σ[3]? = some (some (.ref l)) → Same H2 H0 → YL 1 tb σ H0 → YV (tOp rCat (tVar 3) tb) σ H0 := fun {σ H0 tb} e3 s0 h2 H s Q k => ⟨_, e3, h2 H s _ fun l2 xs2 os2 G2 s2 hn2 hG2 hv2' hx2 =>
      ⟨l, l2, xs, xs2, rfl, rfl, ((s0.trans s).trans s2) _ _ hl2, hG2, Nat.le_trans (show xs.length + xs2.length ≤ 100 by omega) (by decide), fun p hp => k (.ref p) _ (s2.trans (same_upd hp)) (.inr (.inr ⟨p, xs ++ xs2, qs.map some ++ os2, rfl, (s.free (s2.free hp)), upd_same,
        paired_append (els_of (hv2.same (((s0.trans s).trans s2).trans (same_upd hp)))) (Paired.mapP hv2' fun _ _ z => z.same (same_upd hp)), (by rw [List.length_append]; omega)⟩))⟩⟩
    -- the first three
    have y3 := YA.cons (YL.toV (YL.cat (YL.cat (yTake (σ := [some (.ref b), some (.int at_), some (.ref a), some (.ref l), some (.int pl), some (.ref psp), none, none]) rfl rfl (Same.refl _)) (ySpot rfl (Same.refl _)) (by decide)) (yDrop rfl rfl (Same.refl _)) (by decide)) (by decide))
      (YA.cons (YL.toV (YL.cat (yTake rfl rfl (Same.refl _)) (yDrop1 rfl rfl (Same.refl _)) (by decide)) (by decide))
      (YA.cons (YL.toV (YL.cat (YL.cat (yTake rfl rfl (Same.refl _)) (ySpot rfl (Same.refl _)) (by decide)) (yDrop1 rfl rfl (Same.refl _)) (by decide)) (by decide)) YA.nil))
    dsimp only [gName, tSeq, tAsg]
    refine YA.lst y3 (by decide) H2 (Same.refl _) _ fun vs3 G3 pS s3 hpS hn3 hg3 => ?_
    have hS2 : H2 pS = none := s3.free hpS
    have keepS : ∀ {G : Hp} {o : HO}, Same H2 G → Same H2 (upd G pS o) := fun {G o} s' b u e => by rw [upd_ne (ne_of_none e hS2)]; exact s' b u e
    have hU3 : (upd G3 pS (.lst vs3)) pS = some (.lst vs3) := upd_same
    have sU3 : Same H2 (upd G3 pS (.lst vs3)) := keepS s3
    have gU3 : ∀ v ∈ vs3, GdX pS (upd G3 pS (.lst vs3)) v := fun v hv => ((hg3 v hv).toX fun p _ o e z => by rw [z, hpS] at e; cases e).same (same_upd hpS)
    generalize upd G3 pS (.lst vs3) = U3 at hU3 sU3 gU3 ⊢
    have free3 : ∀ p, U3 p = none → p ≠ pS := fun p e z => by rw [z, hU3] at e; cases e
    -- six more
    refine ⟨_, rfl, .inl ⟨rfl, _, SqL.of hU3⟩, ?_⟩
    refine YA.lst1 (n := 6) (σ := [some (.ref b), some (.int at_), some (.ref a), some (.ref l), some (.int pl), some (.ref psp), some (.ref pS), none]) (YA.cons (fun H s Q k => ⟨_, rfl, l, xs, rfl, .inl ⟨SqL.of ((sU3.trans s) _ _ hl2), fun p hp => k (.ref p) _ (same_upd hp) (.inr (.inl ⟨p, xs, rfl, upd_same⟩))⟩⟩)
      (YA.cons (fun H s Q k => ⟨(by decide), fun p hp => k _ _ (same_upd hp) (.inr (.inr ⟨p, [], [], rfl, s.free hp, upd_same, .nil, Nat.zero_le _⟩))⟩)
      (YA.cons (fun H s Q k => k _ H (Same.refl H) (.inl rfl))
      (YA.cons (catVar rfl sU3 (YL.one fun H s Q k => k _ _ H (Same.refl H) .non))
      (YA.cons (catVar rfl sU3 (YL.one fun H s Q k => ⟨(show 1 ≤ sizeLine by decide), fun p hp => k _ _ _ (same_upd hp) (.one upd_same)⟩))
      (YA.cons (YL.toV (YL.cat (YL.cat (yTake rfl rfl sU3) (YL.one fun H s Q k => ⟨_, rfl, _, rfl, l, xs, pl, .ref pq, rfl, rfl, SqL.of ((sU3.trans s) _ _ hl2), hxq, pq, _, rfl, .inr (SqT.of ((sU3.trans s) _ _ hpq)), fun p hp => k _ _ _ (same_upd hp) (.lst upd_same)⟩) (by decide)) (yDrop1 rfl rfl sU3) (by decide)) (by decide)) YA.nil)))))) (by decide) U3 (Same.refl _) _ fun vs6 G6 pE s6 hpE hn6 hg6 => ?_
    have e6 := s6.trans (same_upd (o := .lst vs6) hpE)
    refine ⟨pS, pE, vs3, vs6, rfl, rfl, e6 _ _ hU3, upd_same, Nat.le_trans (show vs3.length + vs6.length ≤ 100 by omega) (by decide), ?_⟩
    have gA : ∀ v ∈ vs3 ++ vs6, GdX pS (upd (upd G6 pE (.lst vs6)) pS (.lst (vs3 ++ vs6))) v := fun v hv => by
      refine GdX.updL (e6 _ _ hU3) ?_
      rcases List.mem_append.mp hv with z | z
      · exact (gU3 v z).same e6
      · exact ((hg6 v z).toX fun p hp _ _ => free3 p hp).same (same_upd hpE)
    have hU6 : (upd (upd G6 pE (.lst vs6)) pS (.lst (vs3 ++ vs6))) pS = some (.lst (vs3 ++ vs6)) := upd_same
    have sU6 : Same H2 (upd (upd G6 pE (.lst vs6)) pS (.lst (vs3 ++ vs6))) := keepS (sU3.trans e6)
    generalize upd (upd G6 pE (.lst vs6)) pS (.lst (vs3 ++ vs6)) = U6 at gA hU6 sU6 ⊢
    have free6 : ∀ p, U6 p = none → p ≠ pS := fun p e z => by rw [z, hU6] at e; cases e
    -- three more
    refine ⟨_, rfl, .inl ⟨rfl, _, SqL.of hU6⟩, ?_⟩
    refine YA.lst1 (n := 3) (σ := [some (.ref b), some (.int at_), some (.ref a), some (.ref l), some (.int pl), some (.ref psp), some (.ref pS), none]) (YA.cons (catVar rfl sU6 (YL.one fun H s Q k => ⟨_, rfl, l, xs, 0, .ref p0, rfl, rfl, SqL.of ((sU6.trans s) _ _ hl2), atI_nat (j := 0) hx0, p0, _, 0, .int r0, rfl, rfl, SqT.of ((sU6.trans s) _ _ hp0), atI_nat (j := 0) rfl,
        _, rfl, l, xs, 0, .ref p0, rfl, rfl, SqL.of ((sU6.trans s) _ _ hl2), atI_nat (j := 0) hx0, p0, _, 1, .int k0, rfl, rfl, SqT.of ((sU6.trans s) _ _ hp0), atI_nat (j := 1) rfl, k0, rfl, hk0, (show 2 ≤ sizeLine by decide), fun p hp => k _ _ _ (same_upd hp) (.txt upd_same)⟩))
      (YA.cons (YL.toV (YL.one fun H s Q k => ⟨_, rfl, k _ _ H (Same.refl H) (.lst ((sU6.trans s) _ _ hl2))⟩) (by decide))
      (YA.cons (fun H s Q k => ⟨_, rfl, l, xs, 0, .ref p0, rfl, rfl, SqL.of ((sU6.trans s) _ _ hl2), atI_nat (j := 0) hx0, k _ H (Same.refl H) (.inr (.inl ⟨p0, _, rfl, (sU6.trans s) _ _ hp0⟩))⟩) YA.nil))) (by decide) U6 (Same.refl _) _ fun vs9 G9 pF s9 hpF hn9 hg9 => ?_
    have e9 := s9.trans (same_upd (o := .lst vs9) hpF)
    refine ⟨pS, pF, vs3 ++ vs6, vs9, rfl, rfl, e9 _ _ hU6, upd_same, Nat.le_trans (show (vs3 ++ vs6).length + vs9.length ≤ 100 by rw [List.length_append]; omega) (by decide), ?_⟩
    have gB : ∀ v ∈ (vs3 ++ vs6) ++ vs9, GdX pS (upd (upd G9 pF (.lst vs9)) pS (.lst ((vs3 ++ vs6) ++ vs9))) v := fun v hv => by
      refine GdX.updL (e9 _ _ hU6) ?_
      rcases List.mem_append.mp hv with z | z
      · exact (gA v z).same e9
      · exact ((hg9 v z).toX fun p hp _ _ => free6 p hp).same (same_upd hpF)
    have hU9 : (upd (upd G9 pF (.lst vs9)) pS (.lst ((vs3 ++ vs6) ++ vs9))) pS = some (.lst ((vs3 ++ vs6) ++ vs9)) := upd_same
    have sU9 : Same H2 (upd (upd G9 pF (.lst vs9)) pS (.lst ((vs3 ++ vs6) ++ vs9))) := keepS (sU6.trans e9)
    generalize upd (upd G9 pF (.lst vs9)) pS (.lst ((vs3 ++ vs6) ++ vs9)) = U9 at gB hU9 sU9 ⊢
    have hlen : ((vs3 ++ vs6) ++ vs9).length = 12 := by rw [List.length_append, List.length_append, hn3, hn6, hn9]
    generalize (vs3 ++ vs6) ++ vs9 = ws at gB hU9 hlen ⊢
    refine ⟨_, rfl, _, rfl, _, _, rfl, rfl, b, ns, at_ + 3, 24, rfl, (S2.trans sU9).seq hS, by omega, by omega, by omega, fun dr G d0 d1 sG => ?_⟩
    have take : ∀ i : Int, 0 ≤ i → i < 12 → ∃ v, atI ws i = some v ∧ Q v G := fun i h0 h1 => by
      have hi : i.toNat < ws.length := by omega
      refine ⟨ws[i.toNat], atI_int h0 (List.getElem?_eq_getElem hi), q _ G ((S2.trans sU9).trans sG) fun rows sl cl up => ?_⟩
      exact ((gB _ (List.getElem_mem hi)).same sG).th rows sl cl up
    refine ⟨_, rfl, _, rfl, _, _, rfl, rfl, _, rfl, ite2 (fun h12 => ?_) (fun h12 => ?_)⟩
    · have h12' : dr < 12 := of_decide_eq_true h12
      obtain ⟨v, e1, e2⟩ := take dr d0 h12'
      exact ⟨_, rfl, pS, ws, dr, v, rfl, rfl, SqL.of (sG _ _ hU9), e1, e2⟩
    · obtain ⟨v, e1, e2⟩ := take (dr % 3) (Int.emod_nonneg _ (by decide)) (Int.lt_trans (Int.emod_lt_of_pos _ (by decide)) (by decide))
      exact ⟨_, rfl, _, _, rfl, rfl, (show (0 : Int) < 3 by decide), pS, ws, dr % 3, v, rfl, rfl, SqL.of (sG _ _ hU9), e1, e2⟩
end
end K03


set_option maxHeartbeats 4000000
namespace K03
open PySem L2 Cw
abbrev sLaw : Stmt := top 38
def spLaw (K : PySem.W.Frag) : Sp := fun vs H Q _ => ∃ (a : Addr) (ns : List Int), vs = [.ref a] ∧ SqL K H a (ns.map V.int) ∧ ns.length ≤ 63 ∧ ∀ H', Q (.bl true) H'
section
variable {P : Program} {w : World} {K : PySem.W.Frag} {mg : Str → Option Value} {base : Heap}
abbrev NLw : List Str := ["_law_script", "_law_floor_here", "_law_walker_here", "_law_spots_here", "_law_way", "_law_due", "_law_spoilt_here"]
theorem scLw : FnScope NLw ["_law_script"] (defScope sLaw) := ⟨rfl, rfl, rfl, by decide +kernel, rfl, by decide +kernel, by decide +kernel⟩
theorem ok_law {f fL fK fS fP fI fW fU fC fB fT : Addr} {fd fdL fdK fdS fdP fdI fdW fdU fdC fdB fdT : FuncData} (F : Fun K "law" "law" sLaw f fd) (T : Tx mg)
    (GL : Call1 P w K mg base "_law_floor" 3 ["_law_script", "_law_at", "_law_most"] (spFl K) fL fdL) (GK : Call1 P w K mg base "_law_walker" 3 ["_law_script", "_law_at"] (spWk K) fK fdK)
    (GS : Call1 P w K mg base "_law_spots" 1 ["_law_floor_here"] spOpens fS fdS) (GP : Call1 P w K mg base "_law_pick" 2 ["_law_script", "_law_k", "_law_many"] (spPick K) fP fdP)
    (GI : Call1 P w K mg base "is_way" 8 ["floor", "walker", "thing"] spIsWay fI fdI) (GW : Call1 P w K mg base "_law_walked" 3 ["_law_script", "_law_at", "_law_floor_here", "_law_walker_here", "_law_start"] (spWalked K) fW fdW)
    (GU : Call1 P w K mg base "_law_sum" 3 ["_law_floor_here", "_law_walker_here", "_law_way"] spSum fU fdU) (GC : Call1 P w K mg base "cost_of" 10 ["floor", "walker", "way"] spCostOf fC fdC)
    (GB : Call1 P w K mg base "_law_spoilt" 4 ["_law_script", "_law_at", "_law_floor_here", "_law_way"] (spSpoilt K) fB fdB) (GT : Call1 P w K mg base "_law_tried" 11 ["_law_floor_here", "_law_walker_here", "_law_way"] spTried fT fdT) :
    FnOk P w K mg base CX0 12 f fd ["_law_script"] (spLaw K) := by
  refine F.ok scLw (fun vs H Q E h => ?_) (fun cdv A outer s H vs Q E hr h => ?_)
  · obtain ⟨a, ns, rfl, _⟩ := h
    rfl
  · obtain ⟨a, ns, rfl, hS, hlen, q⟩ := h
    have hr10 : Room 10 _ := hr.mono (by decide)
    have hr8 : Room 8 _ := hr.mono (by decide)
    have hr4 : Room 4 _ := hr.mono (by decide)
    have hr3 : Room 3 _ := hr.mono (by decide)
    have hr2 : Room 2 _ := hr.mono (by decide)
    have hr1 : Room 1 _ := hr.mono (by decide)
    refine ⟨_, pss_cons (ps_set (i := 1) scLw.nd rfl (Or.inl rfl) (pe_call GL.ok hr3 (by rfl) GL.m GL.kp GL.b .nil pass0 (pa_cons (pv 0) (pa_cons pe_int (pa_cons pe_int pa_nil)))))
      (pss_cons (ps_set (i := 2) scLw.nd rfl (Or.inl rfl) (pe_call GK.ok hr3 (by rfl) GK.m GK.kp GK.b .nil pass0 (pa_cons (pv 0) (pa_cons pe_int pa_nil))))
      (pss_cons (ps_set (i := 3) scLw.nd rfl (Or.inl rfl) (pe_call GS.ok hr1 (by rfl) GS.m GS.kp GS.b .nil pass0 (pa_cons (pv 1) pa_nil)))
      (pss_cons (ps_if (pt_cmpR (op_eq_nil hr.units0) (pv 3) (pe_lst pa_nil) (nomark _))
        (pss_one (ps_ret (pe_cmpR op_is_bl (pe_call GI.ok hr8 (by rfl) GI.m GI.kp GI.b .nil pass0 (pa_cons (pv 1) (pa_cons (pv 2) (pa_cons (pe_lst (pa_cons (pe_tup (pa_cons pe_int (pa_cons pe_int pa_nil))) pa_nil)) pa_nil)))) pe_bl (nomark _)))) pss_nil)
      (pss_cons (ps_set (i := 4) scLw.nd rfl (Or.inl rfl) (pe_call GW.ok hr3 (by rfl) GW.m GW.kp GW.b .nil pass0 (pa_cons (pv 0) (pa_cons pe_int (pa_cons (pv 1) (pa_cons (pv 2) (pa_cons (pe_ix ix_list (pv 3)
        (pe_call GP.ok hr2 (by rfl) GP.m GP.kp GP.b .nil pass0 (pa_cons (pv 0) (pa_cons pe_int (pa_cons (pe_callB call_len_seq (by rfl) T.len PySem.boot_len (pa_cons (pv 3) pa_nil)) pa_nil)))) (fun _ _ => rfl)) pa_nil)))))))
      (pss_cons (ps_set (i := 5) scLw.nd rfl (Or.inl rfl) (pe_call GU.ok hr3 (by rfl) GU.m GU.kp GU.b .nil pass0 (pa_cons (pv 1) (pa_cons (pv 2) (pa_cons (pv 4) pa_nil)))))
      (pss_cons (ps_if (pw_or (pt_cmpR op_isnot_bl (pe_call GI.ok hr8 (by rfl) GI.m GI.kp GI.b .nil pass0 (pa_cons (pv 1) (pa_cons (pv 2) (pa_cons (pv 4) pa_nil)))) pe_bl (nomark _))
        (pw_or1 (pt_cmpR op_ne (pe_call GC.ok hr10 (by rfl) GC.m GC.kp GC.b .nil pass0 (pa_cons (pv 1) (pa_cons (pv 2) (pa_cons (pv 4) pa_nil)))) (pv 5) (nomark _)))).pt (pss_one (ps_ret pe_bl)) pss_nil)
      (pss_cons (ps_set (i := 6) scLw.nd rfl (Or.inl rfl) (pe_call GB.ok hr4 (by rfl) GB.m GB.kp GB.b .nil pass0 (pa_cons (pv 0) (pa_cons pe_int (pa_cons (pv 1) (pa_cons (pv 4) pa_nil))))))
      (pss_cons (ps_set (i := 5) scLw.nd rfl (Or.inl rfl) (pe_call GU.ok hr3 (by rfl) GU.m GU.kp GU.b .nil pass0 (pa_cons (pv 1) (pa_cons (pv 2) (pa_cons (pv 6) pa_nil)))))
      (pss_cons (ps_if (pt_cmpR op_ne (pe_call GI.ok hr8 (by rfl) GI.m GI.kp GI.b .nil pass0 (pa_cons (pv 1) (pa_cons (pv 2) (pa_cons (pv 6) pa_nil)))) (pe_cmpR op_notN (pv 5) pe_non (nomark _)) (nomark _)) (pss_one (ps_ret pe_bl)) pss_nil)
      (pss_one (ps_ret (pe_cmpR op_eq (pe_call GT.ok hr (by rfl) GT.m GT.kp GT.b .nil pass0 (pa_cons (pv 1) (pa_cons (pv 2) (pa_cons (pv 6) pa_nil)))) (pe_ifExp (pt_cmpR op_isN (pv 5) pe_non (nomark _)) pe_str (pv 5)) (nomark _))))))))))))), ?_⟩
    refine ⟨_, rfl, a, ns, 0, 5, rfl, hS, (by decide), (by decide), (by decide), (by decide), fun pf rows c H1 fl s1 hf => ?_⟩
    refine ⟨_, rfl, a, ns, 40, rfl, s1.seq hS, (by decide), (by decide), fun pw sl cl up H2 c0 c9 u0 u3 s2 hw => ?_⟩
    have fl12 : FlOk rows c 12 := ⟨fl.r1, Nat.le_trans fl.rm (by decide), fl.c1, Nat.le_trans fl.cm (by decide), fl.row⟩
    have hf2 : FloorAt H2 pf rows c := ⟨s2 _ _ hf, fl12⟩
    refine ⟨_, rfl, pf, rows, c, rfl, hf2, fun l vs H3 n3 s3 hl3 hv3 => ?_⟩
    have hvl := hv3.length
    refine ⟨_, rfl, (by decide), fun pn hn => ?_⟩
    have s4 := same_upd (o := .lst []) hn
    have S4 := ((s1.trans s2).trans s3).trans s4
    have T4 := s3.trans s4
    refine ⟨l, pn, vs, rfl, rfl, SqL.of (s4 _ _ hl3), SqL.of upd_same, _, rfl, ?_⟩
    refine ite2 (fun h0 => ?_) (fun h0 => ?_)
    · -- no open spot at all
      have hvs : vs = [] := List.isEmpty_iff.mp h0
      have hno : openB rows 0 0 = false := by
        cases e : openB rows 0 0 with
        | false => rfl
        | true =>
          have hm := (mem_opens fl12).mpr e
          have hz : (openQ rows c rows.length).length = 0 := by rw [← hvl, hvs]; rfl
          rw [List.length_eq_zero_iff.mp hz] at hm
          cases hm
      refine ⟨_, rfl, _, rfl, (show 2 ≤ sizeLine by decide), fun pt ht => ⟨(show 1 ≤ sizeLine by decide), fun pq hq => ?_⟩⟩
      have s5 := same_upd (o := .tup [.int 0, .int 0]) ht
      have s6 := same_upd (o := .lst [.ref pt]) hq
      have S6 := T4.trans (s5.trans s6)
      refine ⟨pf, pw, .ref pq, rows, c, sl, cl, up, none, rfl, hf2.same S6, S6 _ _ hw, u0, u3, .lst (os := [some (0, 0)]) upd_same (.cons (.spot (s6 _ _ upd_same)) .nil) (by show 1 ≤ 100; decide) ?_, fun H7 s7 => ⟨_, _, rfl, rfl, q _⟩⟩
      unfold sumO
      rw [if_neg (by
        rintro ⟨_, z⟩
        have : (openB rows 0 0 && true) = true := z
        rw [hno] at this
        cases this)]
    · have hne : 0 < vs.length := by
        cases vs with
        | nil => exact absurd rfl h0
        | cons _ _ => simp
      refine ⟨_, rfl, _, rfl, _, rfl, _, rfl, _, rfl, _, rfl, l, vs, rfl, .inl (SqL.of (s4 _ _ hl3)), a, ns, 49, _, rfl, S4.seq hS, (by decide), (by decide), by omega, fun v H5 v0 v1 s5 => ?_⟩
      have hj : v.toNat < vs.length := by omega
      have T5 := T4.trans s5
      obtain ⟨⟨r, k⟩, hq, p0, e0, hp0⟩ := paired_get (hv3.same (s4.trans s5)) (List.getElem?_eq_getElem hj)
      have ho : openB rows r k = true := (mem_opens fl12).mp (List.mem_of_getElem? hq)
      refine ⟨l, vs, v, .ref p0, rfl, rfl, SqL.of (s5 _ _ (s4 _ _ hl3)), atI_int v0 (by rw [List.getElem?_eq_getElem hj, e0]), a, pf, pw, p0, ns, 50, rows, c, sl, cl, up, r, k, rfl, (S4.trans s5).seq hS, (by decide), (by decide), hf2.same T5, T5 _ _ hw, c0, u0, u3, hp0, ho, fun lw xs qs H6 s6 hlw hvw hok => ?_⟩
      have T6 := T5.trans s6
      have S6 := (S4.trans s5).trans s6
      obtain ⟨ps, q0, eqs, hps, hop, hsm⟩ := hok
      have hxl := hvw.length
      have hql : qs.length = ps.length + 1 := by rw [eqs, List.length_append]; rfl
      obtain ⟨t, ht⟩ := Option.isSome_iff_exists.mp hsm
      have th : ∀ {G : Hp}, Same H6 G → ThIs rows sl cl up G (.ref lw) (some t) := fun {G} sG => .lst (os := qs.map some) (sG _ _ hlw) (els_of (hvw.same sG)) (by omega) (by
        unfold sumO
        have e1 : (qs.map some).isEmpty = false := by rw [eqs, List.map_append]; cases ps <;> rfl
        have e2 : (qs.map some).all (openO rows) = true := by
          rw [List.all_eq_true]
          intro o ho
          obtain ⟨q', hq', rfl⟩ := List.mem_map.mp ho
          exact hop q' hq'
        have e3 : ((qs.map some).map fun o => o.getD (0, 0)) = qs := by rw [List.map_map]; exact List.map_id' qs
        rw [if_pos ⟨e1, e2⟩, e3, List.length_map, show qs.length - 1 = ps.length by omega, ht])
      refine ⟨_, rfl, _, rfl, _, rfl, pf, pw, .ref lw, rows, c, sl, cl, up, some t, rfl, hf2.same T6, T6 _ _ hw, c0, u0, u3, th (Same.refl _), fun H7 s7 => ?_⟩
      refine ⟨_, rfl, _, rfl, _, rfl, pf, pw, .ref lw, rows, c, sl, cl, up, some t, rfl, hf2.same (T6.trans s7), (T6.trans s7) _ _ hw, u0, u3, th s7, fun H8 s8 => ⟨_, _, rfl, rfl, _, rfl, iteF ?_⟩⟩
      refine ⟨_, rfl, _, rfl, _, rfl, pf, pw, .ref lw, rows, c, sl, cl, up, t, rfl, hf2.same ((T6.trans s7).trans s8), ((T6.trans s7).trans s8) _ _ hw, u0, u3, th (s7.trans s8), fun H9 s9 => ⟨_, rfl, rfl, _, rfl, ?_⟩⟩
      have z1 : (!decide (V.int t = optV (some t))) = false := by
        show (!decide (V.int t = V.int t)) = false
        rw [decide_eq_true rfl]; rfl
      rw [z1]
      refine iteF ?_
      have T9 := ((T6.trans s7).trans s8).trans s9
      have U9 := (s7.trans s8).trans s9
      refine ⟨_, rfl, _, rfl, _, rfl, a, pf, lw, ns, 70, rows, c, xs, qs, rfl, (S6.trans U9).seq hS, (by decide), (by decide), hf2.same T9, U9 _ _ hlw, hvw.same U9, ?_, by omega, hop, fun x H10 s10 hx => ?_⟩
      · intro z
        rw [z] at hxl
        simp at hxl
        omega
      obtain ⟨d, hd⟩ := hx rows sl cl up
      have T10 := T9.trans s10
      refine ⟨_, rfl, _, rfl, _, rfl, pf, pw, x, rows, c, sl, cl, up, d, rfl, hf2.same T10, T10 _ _ hw, c0, u0, u3, hd, fun H11 s11 => ?_⟩
      refine ⟨_, rfl, _, rfl, _, rfl, pf, pw, x, rows, c, sl, cl, up, d, rfl, hf2.same (T10.trans s11), (T10.trans s11) _ _ hw, u0, u3, hd.same s11, fun H12 s12 => ⟨_, rfl, rfl, rfl, _, rfl, ?_⟩⟩
      have z2 : (!decide (V.bl d.isSome = V.bl (!decide (optV d = V.non)))) = false := by
        cases d with
        | none => rfl
        | some n =>
          show (!decide (V.bl true = V.bl (!decide (V.int n = V.non)))) = false
          rw [decide_eq_false (show ¬ V.int n = V.non by intro z; cases z)]
          rfl
      rw [z2]
      refine iteF ?_
      have T12 := (T10.trans s11).trans s12
      refine ⟨_, rfl, _, rfl, _, rfl, pf, pw, x, rows, c, sl, cl, up, d, rfl, hf2.same T12, T12 _ _ hw, u0, u3, (hd.same s11).same s12, fun H13 s13 => ?_⟩
      cases d with
      | none =>
        refine ⟨_, rfl, rfl, _, rfl, ite2 (fun _ => ?_) (fun z => absurd (decide_eq_true rfl) z)⟩
        exact ⟨rfl, q _⟩
      | some n =>
        refine ⟨_, rfl, rfl, _, rfl, ite2 (fun z => absurd (of_decide_eq_true z) (by intro w; cases w)) (fun _ => ?_)⟩
        refine ⟨_, rfl, rfl, ?_⟩
        show Q (.bl (decide (V.int n = V.int n))) H13
        rw [decide_eq_true rfl]
        exact q _
end
end K03


set_option maxHeartbeats 4000000
namespace L2
open PySem PySem.Spec PyProof.Rows
theorem kit_refs {K : PySem.W.Frag} {C c : Addr} {b : Bool} (h1 : PySem.W.isClsIn K c = true) (h2 : PySem.W.typeIn K (.ref c) = some (.type "type")) (h3 : PySem.W.subIn K (.ref C) (.ref c) = some b) (h4 : b = true ∨ (C == c) = false) : PySem.W.kitOne K (.ref C) (.ref c) = some b := by
  have k : PySem.W.kitCls K (.ref C) (.ref c) = some b := by
    show (if ((PySem.W.clsIn K c).isSome && PySem.W.typeIn K (.ref c) == some (.type "type")) = true then PySem.W.subIn K (.ref C) (.ref c) else none) = some b
    rw [show (PySem.W.clsIn K c).isSome = true from h1, h2, h3]
    rfl
  unfold PySem.W.kitOne
  split
  · rename_i e
    rcases h4 with rfl | h4
    · rfl
    · have e2 : C = c := Value.ref.inj (beq_iff_eq.mp e)
      rw [e2, beq_self_eq_true] at h4
      cases h4
  · exact k
theorem kit_type {K : PySem.W.Frag} {C : Addr} {T : String} {b : Bool} (h1 : PySem.W.kitMeta T = true) (h3 : PySem.W.subIn K (.ref C) (.type T) = some b) : PySem.W.kitOne K (.ref C) (.type T) = some b := by
  unfold PySem.W.kitOne
  split
  · rename_i e
    cases beq_iff_eq.mp e
  · show (if PySem.W.kitMeta T = true then PySem.W.subIn K (.ref C) (.type T) else none) = some b
    rw [if_pos h1]
    exact h3
theorem exm_refs {K : PySem.W.Frag} {C c : Addr} {b : Bool} (h0 : PySem.W.subIn K (.ref c) (.type "BaseException") = some true) (h1 : PySem.W.isClsIn K c = true) (h2 : PySem.W.typeIn K (.ref c) = some (.type "type")) (h3 : PySem.W.subIn K (.ref C) (.ref c) = some b) : PySem.W.exmOne K (.ref C) (.ref c) = some b := by
  unfold PySem.W.exmOne
  rw [h0]
  show PySem.W.kitCls K (.ref C) (.ref c) = some b
  show (if ((PySem.W.clsIn K c).isSome && PySem.W.typeIn K (.ref c) == some (.type "type")) = true then PySem.W.subIn K (.ref C) (.ref c) else none) = some b
  rw [show (PySem.W.clsIn K c).isSome = true from h1, h2, h3]
  rfl
theorem own_in {K : PySem.W.Frag} {h : Heap} {mg : Str → Option Value} {x : Str} {C : Addr} {bmB : List Value} {newId : String} (X : K.In h) (hm : mg x = some (.ref C)) (q : PySem.W.excIn K C bmB newId = true) : OwnCls x C bmB newId mg h := by
  constructor
  · exact hm
  · unfold PySem.W.excIn at q
    split at q
    · rename_i dd cd sl ho
      split at q
      · rename_i C1 bm1 k0 k1 k2 k3 n1 k5 hm1 hs1
        simp only [Bool.and_eq_true, beq_iff_eq, Bool.not_eq_true'] at q
        obtain ⟨⟨⟨⟨⟨q1, q2⟩, q3⟩, q4⟩, q5⟩, q6⟩ := q
        subst q1 q2
        obtain ⟨nm, bs, mro, ns, qn, hd, sn, sub, ab, col, del⟩ := cd
        have hm2 : mro = .ref C1 :: bm1 := hm1
        have hd2 : del = false := q3
        have q5' : PySem.W.nsOkIn K ns = true := q5
        have q6' : PySem.W.nsIn K ns "__init__" = some none := q6
        subst hm2 hd2
        obtain ⟨ls⟩ := sl
        have hs2 : ls = [k0, k1, k2, k3, some (.builtin n1), k5] := hs1
        subst hs2
        exact ⟨bm1, ns, nm, qn, bs, hd, sn, sub, ab, col, dd, k0, k1, k2, k3, k5, _, X _ _ ho, .of_isNs (PySem.W.isNs_of_in X q5'), PySem.W.nsMap_none_of_in X q5' q6', PySem.W.tail_of_in X q4⟩
      · cases q
    · cases q
end L2
namespace K03
open PySem L2 Cw
theorem all_mk {l : PySem.W.OpenLaw} {w : World} {K : PySem.W.Frag} {h : Heap} {mg : Str → Option Value} {fa C cSign cSize cSpot cErr f1 f2 f3 f4 f5 f6 f7 f8 f9 f10 f11 f12 f13 f14 f15 f16 f17 f18 f19 f20 f21 f22 f23 f24 f25 f26 f27 f28 : Addr} (X : K.In h) (G : h.Ns mainGlobals mg) (hfa : mg "law" = some (.ref fa))
    {od1 an1 od2 an2 od3 an3 od4 an4 od5 an5 od6 an6 od7 an7 od8 an8 od9 an9 od10 an10 od11 an11 od12 an12 od13 an13 od14 an14 od15 an15 od16 an16 od17 an17 od18 an18 od19 an19 od20 an20 od21 an21 od22 an22 od23 an23 od24 an24 od25 an25 od26 an26 od27 an27 od28 an28 : Option Addr} {sl1 sl2 sl3 sl4 sl5 sl6 sl7 sl8 sl9 sl10 sl11 sl12 sl13 sl14 sl15 sl16 sl17 sl18 sl19 sl20 sl21 sl22 sl23 sl24 sl25 sl26 sl27 sl28 : Array (Option Value)} {oc1 kV1 dc1 pm1 cd1 ct1 oc2 kV2 dc2 pm2 cd2 ct2 oc3 kV3 dc3 pm3 cd3 ct3 oc4 kV4 dc4 pm4 cd4 ct4 oc5 kV5 dc5 pm5 cd5 ct5 oc6 kV6 dc6 pm6 cd6 ct6 oc7 kV7 dc7 pm7 cd7 ct7 oc8 kV8 dc8 pm8 cd8 ct8 oc9 kV9 dc9 pm9 cd9 ct9 oc10 kV10 dc10 pm10 cd10 ct10 oc11 kV11 dc11 pm11 cd11 ct11 oc12 kV12 dc12 pm12 cd12 ct12 oc13 kV13 dc13 pm13 cd13 ct13 oc14 kV14 dc14 pm14 cd14 ct14 oc15 kV15 dc15 pm15 cd15 ct15 oc16 kV16 dc16 pm16 cd16 ct16 oc17 kV17 dc17 pm17 cd17 ct17 oc18 kV18 dc18 pm18 cd18 ct18 oc19 kV19 dc19 pm19 cd19 ct19 oc20 kV20 dc20 pm20 cd20 ct20 oc21 kV21 dc21 pm21 cd21 ct21 oc22 kV22 dc22 pm22 cd22 ct22 oc23 kV23 dc23 pm23 cd23 ct23 oc24 kV24 dc24 pm24 cd24 ct24 oc25 kV25 dc25 pm25 cd25 ct25 oc26 kV26 dc26 pm26 cd26 ct26 oc27 kV27 dc27 pm27 cd27 ct27 oc28 kV28 dc28 pm28 cd28 ct28 : Value}
    {t1 t2 t3 : Tok}
    (e0 : PySem.W.nsIn K mainGlobals "NoWay" = some (some (.ref C)))
    (e_cSign : PySem.W.nsIn K mainGlobals "NoSign" = some (some (.ref cSign)))
    (i_cSign : PySem.W.isClsIn K cSign = true)
    (t_cSign : PySem.W.typeIn K (.ref cSign) = some (.type "type"))
    (s_cSign : PySem.W.subIn K (.ref C) (.ref cSign) = some false)
    (e_cSize : PySem.W.nsIn K mainGlobals "NoSize" = some (some (.ref cSize)))
    (i_cSize : PySem.W.isClsIn K cSize = true)
    (t_cSize : PySem.W.typeIn K (.ref cSize) = some (.type "type"))
    (s_cSize : PySem.W.subIn K (.ref C) (.ref cSize) = some false)
    (e_cSpot : PySem.W.nsIn K mainGlobals "NoSpot" = some (some (.ref cSpot)))
    (i_cSpot : PySem.W.isClsIn K cSpot = true)
    (t_cSpot : PySem.W.typeIn K (.ref cSpot) = some (.type "type"))
    (s_cSpot : PySem.W.subIn K (.ref C) (.ref cSpot) = some false)
    (e_cErr : PySem.W.nsIn K mainGlobals "FloorError" = some (some (.ref cErr)))
    (i_cErr : PySem.W.isClsIn K cErr = true)
    (t_cErr : PySem.W.typeIn K (.ref cErr) = some (.type "type"))
    (s_cErr : PySem.W.subIn K (.ref C) (.ref cErr) = some true)
    (b_cErr : PySem.W.subIn K (.ref cErr) (.type "BaseException") = some true)
    (i_C : PySem.W.isClsIn K C = true)
    (t_C : PySem.W.typeIn K (.ref C) = some (.type "type"))
    (s_C : PySem.W.subIn K (.ref C) (.ref C) = some true)
    (s_V : PySem.W.subIn K (.ref C) (.type "ValueError") = some true)
    (x_ga : PySem.W.findIn K (.ref C) "__getattribute__" = some (some (.builtin "BaseException.__getattribute__")))
    (x_hk : PySem.W.findIn K (.ref C) "__getattr__" = some none)
    (x_cl : PySem.W.findIn K (.ref C) "__class__" = some (some (.builtin "object.__class__")))
    (x_mo : PySem.W.mroIn K C (.type "object") = some true)
    (x_mb : PySem.W.mroIn K C (.type "BaseException") = some true)
    (n_cSign : (C == cSign) = false)
    (n_cSize : (C == cSize) = false)
    (n_cSpot : (C == cSpot) = false)
    (a1 : PySem.W.nsIn K mainGlobals "is_whole" = some (some (.ref f1))) (l1 : K.lookup f1 = some ⟨oc1, od1, .func (PySem.W.fnOf "is_whole" "is_whole" (defArgs sWhole) (defBody sWhole) (defScope sWhole) .none kV1 dc1 pm1 an1 cd1 ct1), sl1⟩) (c1 : PySem.W.codeIn K cd1 "is_whole" = true) (k1 : PySem.W.keepIn K (.ref f1) = true)
    (a2 : PySem.W.nsIn K mainGlobals "is_spot" = some (some (.ref f2))) (l2 : K.lookup f2 = some ⟨oc2, od2, .func (PySem.W.fnOf "is_spot" "is_spot" (defArgs sSpot) (defBody sSpot) (defScope sSpot) .none kV2 dc2 pm2 an2 cd2 ct2), sl2⟩) (c2 : PySem.W.codeIn K cd2 "is_spot" = true) (k2 : PySem.W.keepIn K (.ref f2) = true)
    (a3 : PySem.W.nsIn K mainGlobals "is_on_floor" = some (some (.ref f3))) (l3 : K.lookup f3 = some ⟨oc3, od3, .func (PySem.W.fnOf "is_on_floor" "is_on_floor" (defArgs sOn) (defBody sOn) (defScope sOn) .none kV3 dc3 pm3 an3 cd3 ct3), sl3⟩) (c3 : PySem.W.codeIn K cd3 "is_on_floor" = true) (k3 : PySem.W.keepIn K (.ref f3) = true)
    (a4 : PySem.W.nsIn K mainGlobals "is_open" = some (some (.ref f4))) (l4 : K.lookup f4 = some ⟨oc4, od4, .func (PySem.W.fnOf "is_open" "is_open" (defArgs sOpen) (defBody sOpen) (defScope sOpen) .none kV4 dc4 pm4 an4 cd4 ct4), sl4⟩) (c4 : PySem.W.codeIn K cd4 "is_open" = true) (k4 : PySem.W.keepIn K (.ref f4) = true)
    (a5 : PySem.W.nsIn K mainGlobals "need_open" = some (some (.ref f5))) (l5 : K.lookup f5 = some ⟨oc5, od5, .func (PySem.W.fnOf "need_open" "need_open" (defArgs sNeed) (defBody sNeed) (defScope sNeed) .none kV5 dc5 pm5 an5 cd5 ct5), sl5⟩) (c5 : PySem.W.codeIn K cd5 "need_open" = true) (k5 : PySem.W.keepIn K (.ref f5) = true)
    (a6 : PySem.W.nsIn K mainGlobals "height_at" = some (some (.ref f6))) (l6 : K.lookup f6 = some ⟨oc6, od6, .func (PySem.W.fnOf "height_at" "height_at" (defArgs sHeight) (defBody sHeight) (defScope sHeight) .none kV6 dc6 pm6 an6 cd6 ct6), sl6⟩) (c6 : PySem.W.codeIn K cd6 "height_at" = true) (k6 : PySem.W.keepIn K (.ref f6) = true)
    (a7 : PySem.W.nsIn K mainGlobals "are_beside" = some (some (.ref f7))) (l7 : K.lookup f7 = some ⟨oc7, od7, .func (PySem.W.fnOf "are_beside" "are_beside" (defArgs sBeside) (defBody sBeside) (defScope sBeside) .none kV7 dc7 pm7 an7 cd7 ct7), sl7⟩) (c7 : PySem.W.codeIn K cd7 "are_beside" = true) (k7 : PySem.W.keepIn K (.ref f7) = true)
    (a8 : PySem.W.nsIn K mainGlobals "has_open_corners" = some (some (.ref f8))) (l8 : K.lookup f8 = some ⟨oc8, od8, .func (PySem.W.fnOf "has_open_corners" "has_open_corners" (defArgs sCorners) (defBody sCorners) (defScope sCorners) .none kV8 dc8 pm8 an8 cd8 ct8), sl8⟩) (c8 : PySem.W.codeIn K cd8 "has_open_corners" = true) (k8 : PySem.W.keepIn K (.ref f8) = true)
    (a9 : PySem.W.nsIn K mainGlobals "step_cost" = some (some (.ref f9))) (l9 : K.lookup f9 = some ⟨oc9, od9, .func (PySem.W.fnOf "step_cost" "step_cost" (defArgs sCost) (defBody sCost) (defScope sCost) .none kV9 dc9 pm9 an9 cd9 ct9), sl9⟩) (c9 : PySem.W.codeIn K cd9 "step_cost" = true) (k9 : PySem.W.keepIn K (.ref f9) = true)
    (a10 : PySem.W.nsIn K mainGlobals "is_list_of_open_spots" = some (some (.ref f10))) (l10 : K.lookup f10 = some ⟨oc10, od10, .func (PySem.W.fnOf "is_list_of_open_spots" "is_list_of_open_spots" (defArgs sLst) (defBody sLst) (defScope sLst) .none kV10 dc10 pm10 an10 cd10 ct10), sl10⟩) (c10 : PySem.W.codeIn K cd10 "is_list_of_open_spots" = true) (k10 : PySem.W.keepIn K (.ref f10) = true)
    (a11 : PySem.W.nsIn K mainGlobals "is_way" = some (some (.ref f11))) (l11 : K.lookup f11 = some ⟨oc11, od11, .func (PySem.W.fnOf "is_way" "is_way" (defArgs sIsWay) (defBody sIsWay) (defScope sIsWay) .none kV11 dc11 pm11 an11 cd11 ct11), sl11⟩) (c11 : PySem.W.codeIn K cd11 "is_way" = true) (k11 : PySem.W.keepIn K (.ref f11) = true)
    (a12 : PySem.W.nsIn K mainGlobals "costs_along" = some (some (.ref f12))) (l12 : K.lookup f12 = some ⟨oc12, od12, .func (PySem.W.fnOf "costs_along" "costs_along" (defArgs sAlong) (defBody sAlong) (defScope sAlong) .none kV12 dc12 pm12 an12 cd12 ct12), sl12⟩) (c12 : PySem.W.codeIn K cd12 "costs_along" = true) (k12 : PySem.W.keepIn K (.ref f12) = true)
    (a13 : PySem.W.nsIn K mainGlobals "need_way" = some (some (.ref f13))) (l13 : K.lookup f13 = some ⟨oc13, od13, .func (PySem.W.fnOf "need_way" "need_way" (defArgs sNeedW) (defBody sNeedW) (defScope sNeedW) .none kV13 dc13 pm13 an13 cd13 ct13), sl13⟩) (c13 : PySem.W.codeIn K cd13 "need_way" = true) (k13 : PySem.W.keepIn K (.ref f13) = true)
    (a14 : PySem.W.nsIn K mainGlobals "cost_of" = some (some (.ref f14))) (l14 : K.lookup f14 = some ⟨oc14, od14, .func (PySem.W.fnOf "cost_of" "cost_of" (defArgs sCostOf) (defBody sCostOf) (defScope sCostOf) .none kV14 dc14 pm14 an14 cd14 ct14), sl14⟩) (c14 : PySem.W.codeIn K cd14 "cost_of" = true) (k14 : PySem.W.keepIn K (.ref f14) = true)
    (a15 : PySem.W.nsIn K mainGlobals "_law_cell" = some (some (.ref f15))) (l15 : K.lookup f15 = some ⟨oc15, od15, .func (PySem.W.fnOf "_law_cell" "_law_cell" (defArgs lCell) (defBody lCell) (defScope lCell) .none kV15 dc15 pm15 an15 cd15 ct15), sl15⟩) (c15 : PySem.W.codeIn K cd15 "_law_cell" = true) (k15 : PySem.W.keepIn K (.ref f15) = true)
    (a16 : PySem.W.nsIn K mainGlobals "_law_pick" = some (some (.ref f16))) (l16 : K.lookup f16 = some ⟨oc16, od16, .func (PySem.W.fnOf "_law_pick" "_law_pick" (defArgs lPick) (defBody lPick) (defScope lPick) .none kV16 dc16 pm16 an16 cd16 ct16), sl16⟩) (c16 : PySem.W.codeIn K cd16 "_law_pick" = true) (k16 : PySem.W.keepIn K (.ref f16) = true)
    (a17 : PySem.W.nsIn K mainGlobals "_law_floor" = some (some (.ref f17))) (l17 : K.lookup f17 = some ⟨oc17, od17, .func (PySem.W.fnOf "_law_floor" "_law_floor" (defArgs lFloor) (defBody lFloor) (defScope lFloor) .none kV17 dc17 pm17 an17 cd17 ct17), sl17⟩) (c17 : PySem.W.codeIn K cd17 "_law_floor" = true) (k17 : PySem.W.keepIn K (.ref f17) = true)
    (a18 : PySem.W.nsIn K mainGlobals "_law_walker" = some (some (.ref f18))) (l18 : K.lookup f18 = some ⟨oc18, od18, .func (PySem.W.fnOf "_law_walker" "_law_walker" (defArgs lWalker) (defBody lWalker) (defScope lWalker) .none kV18 dc18 pm18 an18 cd18 ct18), sl18⟩) (c18 : PySem.W.codeIn K cd18 "_law_walker" = true) (k18 : PySem.W.keepIn K (.ref f18) = true)
    (a19 : PySem.W.nsIn K mainGlobals "_law_spots" = some (some (.ref f19))) (l19 : K.lookup f19 = some ⟨oc19, od19, .func (PySem.W.fnOf "_law_spots" "_law_spots" (defArgs lSpots) (defBody lSpots) (defScope lSpots) .none kV19 dc19 pm19 an19 cd19 ct19), sl19⟩) (c19 : PySem.W.codeIn K cd19 "_law_spots" = true) (k19 : PySem.W.keepIn K (.ref f19) = true)
    (a20 : PySem.W.nsIn K mainGlobals "_law_cost" = some (some (.ref f20))) (l20 : K.lookup f20 = some ⟨oc20, od20, .func (PySem.W.fnOf "_law_cost" "_law_cost" (defArgs lCost) (defBody lCost) (defScope lCost) .none kV20 dc20 pm20 an20 cd20 ct20), sl20⟩) (c20 : PySem.W.codeIn K cd20 "_law_cost" = true) (k20 : PySem.W.keepIn K (.ref f20) = true)
    (a21 : PySem.W.nsIn K mainGlobals "_law_steps" = some (some (.ref f21))) (l21 : K.lookup f21 = some ⟨oc21, od21, .func (PySem.W.fnOf "_law_steps" "_law_steps" (defArgs lSteps) (defBody lSteps) (defScope lSteps) .none kV21 dc21 pm21 an21 cd21 ct21), sl21⟩) (c21 : PySem.W.codeIn K cd21 "_law_steps" = true) (k21 : PySem.W.keepIn K (.ref f21) = true)
    (a22 : PySem.W.nsIn K mainGlobals "_law_sum" = some (some (.ref f22))) (l22 : K.lookup f22 = some ⟨oc22, od22, .func (PySem.W.fnOf "_law_sum" "_law_sum" (defArgs lSum) (defBody lSum) (defScope lSum) .none kV22 dc22 pm22 an22 cd22 ct22), sl22⟩) (c22 : PySem.W.codeIn K cd22 "_law_sum" = true) (k22 : PySem.W.keepIn K (.ref f22) = true)
    (a23 : PySem.W.nsIn K mainGlobals "_law_word" = some (some (.ref f23))) (l23 : K.lookup f23 = some ⟨oc23, od23, .func (PySem.W.fnOf "_law_word" "_law_word" (defArgs lWord) (defBody lWord) (defScope lWord) .none kV23 dc23 pm23 an23 cd23 ct23), sl23⟩) (c23 : PySem.W.codeIn K cd23 "_law_word" = true) (k23 : PySem.W.keepIn K (.ref f23) = true)
    (a24 : PySem.W.nsIn K mainGlobals "_law_any_spot" = some (some (.ref f24))) (l24 : K.lookup f24 = some ⟨oc24, od24, .func (PySem.W.fnOf "_law_any_spot" "_law_any_spot" (defArgs lAny) (defBody lAny) (defScope lAny) .none kV24 dc24 pm24 an24 cd24 ct24), sl24⟩) (c24 : PySem.W.codeIn K cd24 "_law_any_spot" = true) (k24 : PySem.W.keepIn K (.ref f24) = true)
    (a25 : PySem.W.nsIn K mainGlobals "_law_tried" = some (some (.ref f25))) (l25 : K.lookup f25 = some ⟨oc25, od25, .func (PySem.W.fnOf "_law_tried" "_law_tried" (defArgs lTried) (defBody lTried) (defScope lTried) .none kV25 dc25 pm25 an25 cd25 ct25), sl25⟩) (c25 : PySem.W.codeIn K cd25 "_law_tried" = true) (k25 : PySem.W.keepIn K (.ref f25) = true)
    (a26 : PySem.W.nsIn K mainGlobals "_law_walked" = some (some (.ref f26))) (l26 : K.lookup f26 = some ⟨oc26, od26, .func (PySem.W.fnOf "_law_walked" "_law_walked" (defArgs lWalked) (defBody lWalked) (defScope lWalked) .none kV26 dc26 pm26 an26 cd26 ct26), sl26⟩) (c26 : PySem.W.codeIn K cd26 "_law_walked" = true) (k26 : PySem.W.keepIn K (.ref f26) = true)
    (a27 : PySem.W.nsIn K mainGlobals "_law_spoilt" = some (some (.ref f27))) (l27 : K.lookup f27 = some ⟨oc27, od27, .func (PySem.W.fnOf "_law_spoilt" "_law_spoilt" (defArgs lSpoilt) (defBody lSpoilt) (defScope lSpoilt) .none kV27 dc27 pm27 an27 cd27 ct27), sl27⟩) (c27 : PySem.W.codeIn K cd27 "_law_spoilt" = true) (k27 : PySem.W.keepIn K (.ref f27) = true)
    (a28 : PySem.W.nsIn K mainGlobals "law" = some (some (.ref f28))) (l28 : K.lookup f28 = some ⟨oc28, od28, .func (PySem.W.fnOf "law" "law" (defArgs sLaw) (defBody sLaw) (defScope sLaw) .none kV28 dc28 pm28 an28 cd28 ct28), sl28⟩) (c28 : PySem.W.codeIn K cd28 "law" = true) (k28 : PySem.W.keepIn K (.ref f28) = true)
    (g1 : PySem.W.nsIn K mainGlobals "WALL" = some (some (Value.str "#" t1)))
    (g2 : PySem.W.nsIn K mainGlobals "STRAIGHT_COST" = some (some (Value.int 2 t2)))
    (g3 : PySem.W.nsIn K mainGlobals "SLANTING_COST" = some (some (Value.int 3 t3)))
    (z_isinstance : PySem.W.nsIn K mainGlobals "isinstance" = some none)
    (z_int : PySem.W.nsIn K mainGlobals "int" = some none)
    (z_bool : PySem.W.nsIn K mainGlobals "bool" = some none)
    (z_tuple : PySem.W.nsIn K mainGlobals "tuple" = some none)
    (z_len : PySem.W.nsIn K mainGlobals "len" = some none)
    (z_range : PySem.W.nsIn K mainGlobals "range" = some none)
    (z_abs : PySem.W.nsIn K mainGlobals "abs" = some none)
    (z_max : PySem.W.nsIn K mainGlobals "max" = some none)
    (z_str : PySem.W.nsIn K mainGlobals "str" = some none)
    (z_enumerate : PySem.W.nsIn K mainGlobals "enumerate" = some none)
    (z_ValueError : PySem.W.nsIn K mainGlobals "ValueError" = some none)
    (z_zip : PySem.W.nsIn K mainGlobals "zip" = some none)
    (z_list : PySem.W.nsIn K mainGlobals "list" = some none)
    (z_all : PySem.W.nsIn K mainGlobals "all" = some none)
    (z_sum : PySem.W.nsIn K mainGlobals "sum" = some none)
    (q_exc : PySem.W.excIn K C [.type "ValueError", .type "Exception", .type "BaseException", .type "object"] "ValueError.__new__" = true)
    : ∃ fd : FuncData, (∀ (s : Shared) (v : Value), BindsTo s fd ⟨[v], []⟩ [("_law_script", v)]) ∧ ∀ base : Heap, K.In base → base.Ns mainGlobals mg → FnOk l.prog w K mg base CX0 12 fa fd ["_law_script"] (spLaw K) := by
  have e := hfa.symm.trans (PySem.W.mg_of X G a28)
  cases e
  have T : Tx mg := ⟨PySem.W.mg_none_of X G z_isinstance, PySem.W.mg_none_of X G z_int, PySem.W.mg_none_of X G z_bool, PySem.W.mg_none_of X G z_tuple, PySem.W.mg_none_of X G z_len, PySem.W.mg_none_of X G z_range, PySem.W.mg_none_of X G z_abs, PySem.W.mg_none_of X G z_max, ⟨t1, PySem.W.mg_of X G g1⟩, ⟨t2, PySem.W.mg_of X G g2⟩, ⟨t3, PySem.W.mg_of X G g3⟩⟩
  have TD : TxD mg := ⟨PySem.W.mg_none_of X G z_str, PySem.W.mg_none_of X G z_tuple, PySem.W.mg_none_of X G z_len, PySem.W.mg_none_of X G z_range⟩
  have XC : XCls K C := ⟨x_ga, x_hk, x_cl, x_mo, x_mb, i_C⟩
  have TW : TxW mg := ⟨PySem.W.mg_none_of X G z_zip, PySem.W.mg_none_of X G z_list, PySem.W.mg_none_of X G z_all, PySem.W.mg_none_of X G z_sum⟩
  have TK : Kinds K mg C cErr := ⟨XC, PySem.W.mg_none_of X G z_isinstance, PySem.W.mg_none_of X G z_ValueError, ⟨_, PySem.W.mg_of X G e_cSign, kit_refs i_cSign t_cSign s_cSign (.inr n_cSign)⟩, ⟨_, PySem.W.mg_of X G e_cSize, kit_refs i_cSize t_cSize s_cSize (.inr n_cSize)⟩, ⟨_, PySem.W.mg_of X G e_cSpot, kit_refs i_cSpot t_cSpot s_cSpot (.inr n_cSpot)⟩, ⟨PySem.W.mg_of X G e0, kit_refs i_C t_C s_C (.inl rfl)⟩, ⟨PySem.W.mg_of X G e_cErr, kit_refs i_cErr t_cErr s_cErr (.inl rfl)⟩, kit_type (by decide +kernel) s_V⟩
  have HX := exm_refs b_cErr i_cErr t_cErr s_cErr
  have F1 := fun_mk (st := sWhole) l1 c1 k1
  have b1 := F1.binds (ps := ["thing"]) fun _ _ _ _ _ _ us hl => match us, hl with | [_], _ => rfl
  have F2 := fun_mk (st := sSpot) l2 c2 k2
  have b2 := F2.binds (ps := ["thing"]) fun _ _ _ _ _ _ us hl => match us, hl with | [_], _ => rfl
  have F3 := fun_mk (st := sOn) l3 c3 k3
  have b3 := F3.binds (ps := ["floor", "spot"]) fun _ _ _ _ _ _ us hl => match us, hl with | [_, _], _ => rfl
  have F4 := fun_mk (st := sOpen) l4 c4 k4
  have b4 := F4.binds (ps := ["floor", "thing"]) fun _ _ _ _ _ _ us hl => match us, hl with | [_, _], _ => rfl
  have F5 := fun_mk (st := sNeed) l5 c5 k5
  have b5 := F5.binds (ps := ["floor", "spot"]) fun _ _ _ _ _ _ us hl => match us, hl with | [_, _], _ => rfl
  have F6 := fun_mk (st := sHeight) l6 c6 k6
  have b6 := F6.binds (ps := ["floor", "spot"]) fun _ _ _ _ _ _ us hl => match us, hl with | [_, _], _ => rfl
  have F7 := fun_mk (st := sBeside) l7 c7 k7
  have b7 := F7.binds (ps := ["one", "other"]) fun _ _ _ _ _ _ us hl => match us, hl with | [_, _], _ => rfl
  have F8 := fun_mk (st := sCorners) l8 c8 k8
  have b8 := F8.binds (ps := ["floor", "one", "other"]) fun _ _ _ _ _ _ us hl => match us, hl with | [_, _, _], _ => rfl
  have F9 := fun_mk (st := sCost) l9 c9 k9
  have b9 := F9.binds (ps := ["floor", "walker", "one", "other"]) fun _ _ _ _ _ _ us hl => match us, hl with | [_, _, _, _], _ => rfl
  have F10 := fun_mk (st := sLst) l10 c10 k10
  have b10 := F10.binds (ps := ["floor", "thing"]) fun _ _ _ _ _ _ us hl => match us, hl with | [_, _], _ => rfl
  have F11 := fun_mk (st := sIsWay) l11 c11 k11
  have b11 := F11.binds (ps := ["floor", "walker", "thing"]) fun _ _ _ _ _ _ us hl => match us, hl with | [_, _, _], _ => rfl
  have F12 := fun_mk (st := sAlong) l12 c12 k12
  have b12 := F12.binds (ps := ["floor", "walker", "spots"]) fun _ _ _ _ _ _ us hl => match us, hl with | [_, _, _], _ => rfl
  have F13 := fun_mk (st := sNeedW) l13 c13 k13
  have b13 := F13.binds (ps := ["floor", "walker", "thing"]) fun _ _ _ _ _ _ us hl => match us, hl with | [_, _, _], _ => rfl
  have F14 := fun_mk (st := sCostOf) l14 c14 k14
  have b14 := F14.binds (ps := ["floor", "walker", "way"]) fun _ _ _ _ _ _ us hl => match us, hl with | [_, _, _], _ => rfl
  have F15 := fun_mk (st := lCell) l15 c15 k15
  have b15 := F15.binds (ps := ["_law_script", "_law_k"]) fun _ _ _ _ _ _ us hl => match us, hl with | [_, _], _ => rfl
  have F16 := fun_mk (st := lPick) l16 c16 k16
  have b16 := F16.binds (ps := ["_law_script", "_law_k", "_law_many"]) fun _ _ _ _ _ _ us hl => match us, hl with | [_, _, _], _ => rfl
  have F17 := fun_mk (st := lFloor) l17 c17 k17
  have b17 := F17.binds (ps := ["_law_script", "_law_at", "_law_most"]) fun _ _ _ _ _ _ us hl => match us, hl with | [_, _, _], _ => rfl
  have F18 := fun_mk (st := lWalker) l18 c18 k18
  have b18 := F18.binds (ps := ["_law_script", "_law_at"]) fun _ _ _ _ _ _ us hl => match us, hl with | [_, _], _ => rfl
  have F19 := fun_mk (st := lSpots) l19 c19 k19
  have b19 := F19.binds (ps := ["_law_floor_here"]) fun _ _ _ _ _ _ us hl => match us, hl with | [_], _ => rfl
  have F20 := fun_mk (st := lCost) l20 c20 k20
  have b20 := F20.binds (ps := ["_law_floor_here", "_law_walker_here", "_law_spot", "_law_goal"]) fun _ _ _ _ _ _ us hl => match us, hl with | [_, _, _, _], _ => rfl
  have F21 := fun_mk (st := lSteps) l21 c21 k21
  have b21 := F21.binds (ps := ["_law_floor_here", "_law_walker_here", "_law_spot"]) fun _ _ _ _ _ _ us hl => match us, hl with | [_, _, _], _ => rfl
  have F22 := fun_mk (st := lSum) l22 c22 k22
  have b22 := F22.binds (ps := ["_law_floor_here", "_law_walker_here", "_law_way"]) fun _ _ _ _ _ _ us hl => match us, hl with | [_, _, _], _ => rfl
  have F23 := fun_mk (st := lWord) l23 c23 k23
  have b23 := F23.binds (ps := ["_law_kept"]) fun _ _ _ _ _ _ us hl => match us, hl with | [_], _ => rfl
  have F24 := fun_mk (st := lAny) l24 c24 k24
  have b24 := F24.binds (ps := ["_law_script", "_law_at", "_law_floor_here"]) fun _ _ _ _ _ _ us hl => match us, hl with | [_, _, _], _ => rfl
  have F25 := fun_mk (st := lTried) l25 c25 k25
  have b25 := F25.binds (ps := ["_law_floor_here", "_law_walker_here", "_law_way"]) fun _ _ _ _ _ _ us hl => match us, hl with | [_, _, _], _ => rfl
  have F26 := fun_mk (st := lWalked) l26 c26 k26
  have b26 := F26.binds (ps := ["_law_script", "_law_at", "_law_floor_here", "_law_walker_here", "_law_start"]) fun _ _ _ _ _ _ us hl => match us, hl with | [_, _, _, _, _], _ => rfl
  have F27 := fun_mk (st := lSpoilt) l27 c27 k27
  have b27 := F27.binds (ps := ["_law_script", "_law_at", "_law_floor_here", "_law_way"]) fun _ _ _ _ _ _ us hl => match us, hl with | [_, _, _, _], _ => rfl
  have F28 := fun_mk (st := sLaw) l28 c28 k28
  refine ⟨PySem.W.fnOf "law" "law" (defArgs sLaw) (defBody sLaw) (defScope sLaw) .none kV28 dc28 pm28 an28 cd28 ct28, fun s v => .of_eq rfl, fun base XB GB => ?_⟩
  have G1 : Call1 l.prog w K mg base "is_whole" 1 ["thing"] spWhole f1 _ := ⟨ok_whole F1 T, PySem.W.mg_of X G a1, k1, b1⟩
  have G2 : Call1 l.prog w K mg base "is_spot" 2 ["thing"] spSpot f2 _ := ⟨ok_spot F2 T G1, PySem.W.mg_of X G a2, k2, b2⟩
  have G3 : Call1 l.prog w K mg base "is_on_floor" 1 ["floor", "spot"] spOn f3 _ := ⟨ok_on F3 T, PySem.W.mg_of X G a3, k3, b3⟩
  have G4 : Call1 l.prog w K mg base "is_open" 3 ["floor", "thing"] spOpen f4 _ := ⟨ok_open F4 T G2 G3, PySem.W.mg_of X G a4, k4, b4⟩
  have G5 : Call1 l.prog w K mg base "need_open" 4 ["floor", "spot"] spNeed f5 _ := ⟨ok_need F5 G4, PySem.W.mg_of X G a5, k5, b5⟩
  have G6 : Call1 l.prog w K mg base "height_at" 5 ["floor", "spot"] spHeight f6 _ := ⟨ok_height F6 T G5, PySem.W.mg_of X G a6, k6, b6⟩
  have G7 : Call1 l.prog w K mg base "are_beside" 1 ["one", "other"] spBeside f7 _ := ⟨ok_beside F7 T, PySem.W.mg_of X G a7, k7, b7⟩
  have G8 : Call1 l.prog w K mg base "has_open_corners" 4 ["floor", "one", "other"] spCorners f8 _ := ⟨ok_corners F8 G4, PySem.W.mg_of X G a8, k8, b8⟩
  have G9 : Call1 l.prog w K mg base "step_cost" 6 ["floor", "walker", "one", "other"] spCost f9 _ := ⟨ok_cost F9 T G7 G8 G6, PySem.W.mg_of X G a9, k9, b9⟩
  have G12 : Call1 l.prog w K mg base "costs_along" 7 ["floor", "walker", "spots"] spAlong f12 _ := ⟨ok_along F12 TW G9, PySem.W.mg_of X G a12, k12, b12⟩
  have G10 : Call1 l.prog w K mg base "is_list_of_open_spots" 4 ["floor", "thing"] spLst f10 _ := ⟨ok_lst F10 T TW G4, PySem.W.mg_of X G a10, k10, b10⟩
  have G11 : Call1 l.prog w K mg base "is_way" 8 ["floor", "walker", "thing"] spIsWay f11 _ := ⟨ok_isway F11 G10 G12, PySem.W.mg_of X G a11, k11, b11⟩
  have G13 : Call1 l.prog w K mg base "need_way" 9 ["floor", "walker", "thing"] spNeedW f13 _ := ⟨ok_needw F13 G11, PySem.W.mg_of X G a13, k13, b13⟩
  have G14 : Call1 l.prog w K mg base "cost_of" 10 ["floor", "walker", "way"] spCostOf f14 _ := ⟨ok_costof F14 TW G13 G12, PySem.W.mg_of X G a14, k14, b14⟩
  have G19 : Call1 l.prog w K mg base "_law_spots" 1 ["_law_floor_here"] spOpens f19 _ := ⟨ok_lspots F19 T (PySem.W.mg_none_of X G z_enumerate), PySem.W.mg_of X G a19, k19, b19⟩
  have G20 : Call1 l.prog w K mg base "_law_cost" 1 ["_law_floor_here", "_law_walker_here", "_law_spot", "_law_goal"] spLCost f20 _ := ⟨ok_lcost F20 T, PySem.W.mg_of X G a20, k20, b20⟩
  have G21 : Call1 l.prog w K mg base "_law_steps" 2 ["_law_floor_here", "_law_walker_here", "_law_spot"] spLSteps f21 _ := ⟨ok_lsteps F21 T G20, PySem.W.mg_of X G a21, k21, b21⟩
  have G15 : Call1 l.prog w K mg base "_law_cell" 1 ["_law_script", "_law_k"] (spCell K) f15 _ := ⟨ok_cell F15 TD, PySem.W.mg_of X G a15, k15, b15⟩
  have G16 : Call1 l.prog w K mg base "_law_pick" 2 ["_law_script", "_law_k", "_law_many"] (spPick K) f16 _ := ⟨ok_pick F16 TD G15.ok (PySem.W.mg_of X G a15) k15 b15, PySem.W.mg_of X G a16, k16, b16⟩
  have G17 : Call1 l.prog w K mg base "_law_floor" 3 ["_law_script", "_law_at", "_law_most"] (spFl K) f17 _ := ⟨ok_fl F17 TD G16.ok (PySem.W.mg_of X G a16) k16 b16, PySem.W.mg_of X G a17, k17, b17⟩
  have G18 : Call1 l.prog w K mg base "_law_walker" 3 ["_law_script", "_law_at"] (spWk K) f18 _ := ⟨ok_wk F18 TD G16.ok (PySem.W.mg_of X G a16) k16 b16, PySem.W.mg_of X G a18, k18, b18⟩
  have G24 : Call1 l.prog w K mg base "_law_any_spot" 3 ["_law_script", "_law_at", "_law_floor_here"] (spLAny K) f24 _ := ⟨ok_any F24 TD G16, PySem.W.mg_of X G a24, k24, b24⟩
  have G23 : Call1 l.prog w K mg base "_law_word" 3 ["_law_kept"] (spWord C) f23 _ := ⟨ok_word F23 TK, PySem.W.mg_of X G a23, k23, b23⟩
  have G22 : Call1 l.prog w K mg base "_law_sum" 3 ["_law_floor_here", "_law_walker_here", "_law_way"] spSum f22 _ := ⟨ok_sum F22 T TW (PySem.W.mg_none_of X G z_enumerate) G19 G21, PySem.W.mg_of X G a22, k22, b22⟩
  have G26 : Call1 l.prog w K mg base "_law_walked" 3 ["_law_script", "_law_at", "_law_floor_here", "_law_walker_here", "_law_start"] (spWalked K) f26 _ := ⟨ok_walked F26 T G16 G21, PySem.W.mg_of X G a26, k26, b26⟩
  have G27 : Call1 l.prog w K mg base "_law_spoilt" 4 ["_law_script", "_law_at", "_law_floor_here", "_law_way"] (spSpoilt K) f27 _ := ⟨ok_spoilt F27 T TW (PySem.W.mg_none_of X G z_str) G16 G24, PySem.W.mg_of X G a27, k27, b27⟩
  have OC := own_in (x := "NoWay") XB (PySem.W.mg_of X G e0) q_exc
  have NS : Call2 l.prog w K mg base "need_way" 9 ["floor", "walker", "thing"] (spNoWay C) f13 _ := ⟨ok_needw_shut F13 G11 OC PySem.F.excBase_ValueError, PySem.W.mg_of X G a13, k13, b13⟩
  have CS : Call2 l.prog w K mg base "cost_of" 10 ["floor", "walker", "way"] (fun vs H Q E => spCostOf vs H Q E ∨ spNoWay C vs H Q E) f14 _ := ⟨fn_or (fn_lift G14.ok) (ok_costof_shut F14 NS), PySem.W.mg_of X G a14, k14, b14⟩
  have G25 : Call1 l.prog w K mg base "_law_tried" 11 ["_law_floor_here", "_law_walker_here", "_law_way"] spTried f25 _ := ⟨ok_tried F25 CS G23 (PySem.W.mg_of X G e_cErr) HX, PySem.W.mg_of X G a25, k25, b25⟩
  exact ok_law F28 T G17 G18 G19 G16 G11 G26 G22 G14 G27 G25
theorem walk {l : PySem.W.OpenLaw} {q : Program} {loose : List Str} {XP : (Str → Option Value) → Heap → Prop} {YP : World → Heap → Prop} {d : DefRec} {K : Params → PySem.W.Frag} (hn : l.most = some 63) (hdf : d.params.defaults = [])
    (hY : ∀ (w : World) (h : Heap), YP w h → (K w.params).In h)
    (F : ∀ (w : World) (mg : Str → Option Value) (fa : Addr) (h : Heap), (K w.params).In h → h.Ns mainGlobals mg → mg d.name = some (.ref fa) →
      ∃ fd : FuncData, (∀ (s : Shared) (u : Value), BindsTo s fd ⟨[u], []⟩ [("_law_script", u)]) ∧ ∀ base : Heap, (K w.params).In base → base.Ns mainGlobals mg → FnOk l.prog w (K w.params) mg base CX0 12 fa fd ["_law_script"] (spLaw (K w.params))) :
    PySem.W.WalkO q loose XP YP l.row.toRowW d [] (fun f vs => PySem.call f vs) :=
  L2.walk_of (n := 63) (k := 12) (x := "_law_script") (CX := fun _ => CX0) (sp := fun w => spLaw (K w.params)) hn (by decide) hdf ⟨rfl, by decide, by decide⟩ hY F (fun _ _ a ns hl _ hS => ⟨a, ns, rfl, hS, hl, fun _ => rfl⟩) fun _ _ _ _ _ z => z
end K03
open PySem PySem.W PyProof.Rows
set_option maxRecDepth 100000 in
set_option maxHeartbeats 0 in
theorem PySem.Challenge.cw_cellways_k03_ways_holds : PySem.Challenge.rw_cellways_k03_ways.Holds := by
  w_on; o_law; k_head; (case hw => w_witness2)
  k_fill
  refine K03.walk (l := PySem.Challenge.rw_cellways_k03_ways) rfl rfl (fun w h Y => PySem.W.kIn_of Y) ?F
  case F =>
    intro w mg fa h KX G hmg
    refine' K03.all_mk KX G hmg ?e0 ?e_cSign ?i_cSign ?t_cSign ?s_cSign ?e_cSize ?i_cSize ?t_cSize ?s_cSize ?e_cSpot ?i_cSpot ?t_cSpot ?s_cSpot ?e_cErr ?i_cErr ?t_cErr ?s_cErr ?b_cErr ?i_C ?t_C ?s_C ?s_V ?x_ga ?x_hk ?x_cl ?x_mo ?x_mb ?n_cSign ?n_cSize ?n_cSpot ?a1 ?l1 ?c1 ?k1 ?a2 ?l2 ?c2 ?k2 ?a3 ?l3 ?c3 ?k3 ?a4 ?l4 ?c4 ?k4 ?a5 ?l5 ?c5 ?k5 ?a6 ?l6 ?c6 ?k6 ?a7 ?l7 ?c7 ?k7 ?a8 ?l8 ?c8 ?k8 ?a9 ?l9 ?c9 ?k9 ?a10 ?l10 ?c10 ?k10 ?a11 ?l11 ?c11 ?k11 ?a12 ?l12 ?c12 ?k12 ?a13 ?l13 ?c13 ?k13 ?a14 ?l14 ?c14 ?k14 ?a15 ?l15 ?c15 ?k15 ?a16 ?l16 ?c16 ?k16 ?a17 ?l17 ?c17 ?k17 ?a18 ?l18 ?c18 ?k18 ?a19 ?l19 ?c19 ?k19 ?a20 ?l20 ?c20 ?k20 ?a21 ?l21 ?c21 ?k21 ?a22 ?l22 ?c22 ?k22 ?a23 ?l23 ?c23 ?k23 ?a24 ?l24 ?c24 ?k24 ?a25 ?l25 ?c25 ?k25 ?a26 ?l26 ?c26 ?k26 ?a27 ?l27 ?c27 ?k27 ?a28 ?l28 ?c28 ?k28 ?g1 ?g2 ?g3 ?z_isinstance ?z_int ?z_bool ?z_tuple ?z_len ?z_range ?z_abs ?z_max ?z_str ?z_enumerate ?z_ValueError ?z_zip ?z_list ?z_all ?z_sum ?q_exc
    (case e0 => k_is)
    (case e_cSign => k_is)
    (case i_cSign => k_is)
    (case t_cSign => k_is)
    (case s_cSign => k_is)
    (case e_cSize => k_is)
    (case i_cSize => k_is)
    (case t_cSize => k_is)
    (case s_cSize => k_is)
    (case e_cSpot => k_is)
    (case i_cSpot => k_is)
    (case t_cSpot => k_is)
    (case s_cSpot => k_is)
    (case e_cErr => k_is)
    (case i_cErr => k_is)
    (case t_cErr => k_is)
    (case s_cErr => k_is)
    (case b_cErr => k_is)
    (case i_C => k_is)
    (case t_C => k_is)
    (case s_C => k_is)
    (case s_V => k_is)
    (case x_ga => k_is)
    (case x_hk => k_is)
    (case x_cl => k_is)
    (case x_mo => k_is)
    (case x_mb => k_is)
    (case n_cSign => decide)
    (case n_cSize => decide)
    (case n_cSpot => decide)
    (case a1 => k_is)
    (case l1 => k_is)
    (case c1 => k_is)
    (case k1 => k_is)
    (case a2 => k_is)
    (case l2 => k_is)
    (case c2 => k_is)
    (case k2 => k_is)
    (case a3 => k_is)
    (case l3 => k_is)
    (case c3 => k_is)
    (case k3 => k_is)
    (case a4 => k_is)
    (case l4 => k_is)
    (case c4 => k_is)
    (case k4 => k_is)
    (case a5 => k_is)
    (case l5 => k_is)
    (case c5 => k_is)
    (case k5 => k_is)
    (case a6 => k_is)
    (case l6 => k_is)
    (case c6 => k_is)
    (case k6 => k_is)
    (case a7 => k_is)
    (case l7 => k_is)
    (case c7 => k_is)
    (case k7 => k_is)
    (case a8 => k_is)
    (case l8 => k_is)
    (case c8 => k_is)
    (case k8 => k_is)
    (case a9 => k_is)
    (case l9 => k_is)
    (case c9 => k_is)
    (case k9 => k_is)
    (case a10 => k_is)
    (case l10 => k_is)
    (case c10 => k_is)
    (case k10 => k_is)
    (case a11 => k_is)
    (case l11 => k_is)
    (case c11 => k_is)
    (case k11 => k_is)
    (case a12 => k_is)
    (case l12 => k_is)
    (case c12 => k_is)
    (case k12 => k_is)
    (case a13 => k_is)
    (case l13 => k_is)
    (case c13 => k_is)
    (case k13 => k_is)
    (case a14 => k_is)
    (case l14 => k_is)
    (case c14 => k_is)
    (case k14 => k_is)
    (case a15 => k_is)
    (case l15 => k_is)
    (case c15 => k_is)
    (case k15 => k_is)
    (case a16 => k_is)
    (case l16 => k_is)
    (case c16 => k_is)
    (case k16 => k_is)
    (case a17 => k_is)
    (case l17 => k_is)
    (case c17 => k_is)
    (case k17 => k_is)
    (case a18 => k_is)
    (case l18 => k_is)
    (case c18 => k_is)
    (case k18 => k_is)
    (case a19 => k_is)
    (case l19 => k_is)
    (case c19 => k_is)
    (case k19 => k_is)
    (case a20 => k_is)
    (case l20 => k_is)
    (case c20 => k_is)
    (case k20 => k_is)
    (case a21 => k_is)
    (case l21 => k_is)
    (case c21 => k_is)
    (case k21 => k_is)
    (case a22 => k_is)
    (case l22 => k_is)
    (case c22 => k_is)
    (case k22 => k_is)
    (case a23 => k_is)
    (case l23 => k_is)
    (case c23 => k_is)
    (case k23 => k_is)
    (case a24 => k_is)
    (case l24 => k_is)
    (case c24 => k_is)
    (case k24 => k_is)
    (case a25 => k_is)
    (case l25 => k_is)
    (case c25 => k_is)
    (case k25 => k_is)
    (case a26 => k_is)
    (case l26 => k_is)
    (case c26 => k_is)
    (case k26 => k_is)
    (case a27 => k_is)
    (case l27 => k_is)
    (case c27 => k_is)
    (case k27 => k_is)
    (case a28 => k_is)
    (case l28 => k_is)
    (case c28 => k_is)
    (case k28 => k_is)
    (case g1 => k_is)
    (case g2 => k_is)
    (case g3 => k_is)
    (case z_isinstance => k_is)
    (case z_int => k_is)
    (case z_bool => k_is)
    (case z_tuple => k_is)
    (case z_len => k_is)
    (case z_range => k_is)
    (case z_abs => k_is)
    (case z_max => k_is)
    (case z_str => k_is)
    (case z_enumerate => k_is)
    (case z_ValueError => k_is)
    (case z_zip => k_is)
    (case z_list => k_is)
    (case z_all => k_is)
    (case z_sum => k_is)
    (case q_exc => k_exc)
#print axioms PySem.Challenge.cw_cellways_k03_ways_holds

