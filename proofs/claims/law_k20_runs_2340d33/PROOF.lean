import PyProof.Rows.All
import Wide.All
import OpenK.AllK
import Wide.FinOn
import Lean
import PyProof.EqAt
import PyProof.EqKinds
import PyProof.TupleCall
import PySem.Challenge.RW_cellways_k20_runs
set_option Elab.async false
set_option linter.all false
set_option maxRecDepth 100000
namespace L2
open PySem PySem.Spec PyProof.Rows
abbrev Key := Sum Int Str
def keyIs : Key → Value → Bool
 | .inl k, v => Value.isInt k v
 | .inr x, v => Value.isStrOf x v
def keyH (w : World) : Key → Int
 | .inl k => hashInt k
 | .inr x => hashStr w x
theorem keyIs_shape : ∀ {k : Key} {v : Value}, keyIs k v = true → (∃ i t, k = Sum.inl i ∧ v = Value.int i t) ∨ (∃ x t, k = Sum.inr x ∧ v = Value.str x t)
 | .inl i, v, h => by
  obtain ⟨t, e⟩ := Value.isInt_shape (k := i) (v := v) h
  exact .inl ⟨i, t, rfl, e⟩
 | .inr x, v, h => by
  obtain ⟨t, e⟩ := Value.isStrOf_shape (x := x) (v := v) h
  exact .inr ⟨x, t, rfl, e⟩
theorem key_ll (a b : Int) : decide ((Sum.inl a : Key) = Sum.inl b) = (a == b) := by
 by_cases e : a = b
 ·subst e; simp
 ·have h : ¬ (Sum.inl a : Key) = Sum.inl b := fun q => e (Sum.inl.inj q)
  rw [decide_eq_false h]
  exact (beq_eq_false_iff_ne.mpr e).symm
theorem key_rr (a b : Str) : decide ((Sum.inr a : Key) = Sum.inr b) = decide (a = b) := by
 by_cases e : a = b
 ·subst e; simp
 ·have h : ¬ (Sum.inr a : Key) = Sum.inr b := fun q => e (Sum.inr.inj q)
  rw [decide_eq_false h, decide_eq_false e]
theorem key_lr (a : Int) (b : Str) : decide ((Sum.inl a : Key) = Sum.inr b) = false := decide_eq_false (fun q => nomatch q)
theorem key_rl (a : Str) (b : Int) : decide ((Sum.inr a : Key) = Sum.inl b) = false := decide_eq_false (fun q => nomatch q)
def mixKind (prog : Program) (w : World) : PySem.KeyKind prog w Key where
 is := keyIs
 hash := keyH w
 inj := fun v a b ha hb => by
  rcases keyIs_shape ha with ⟨i, t, rfl, rfl⟩ | ⟨x, t, rfl, rfl⟩
  ·rcases keyIs_shape hb with ⟨j, u, rfl, e⟩ | ⟨y, u, rfl, e⟩
   ·injection e with e1 _; rw [e1]
   ·exact nomatch e
  ·rcases keyIs_shape hb with ⟨j, u, rfl, e⟩ | ⟨y, u, rfl, e⟩
   ·exact nomatch e
   ·injection e with e1 _; rw [e1]
 byValue := fun k v h => by
  rcases keyIs_shape h with ⟨i, t, rfl, rfl⟩ | ⟨x, t, rfl, rfl⟩ <;> rfl
 pyHash := fun hv h => by
  rcases keyIs_shape hv with ⟨i, t, rfl, rfl⟩ | ⟨x, t, rfl, rfl⟩
  ·exact wpAny_pyHash_int h
  ·exact wpAny_pyHash_str h
 eqBool := fun hu hv h => by
  rcases keyIs_shape hu with ⟨i, t, rfl, rfl⟩ | ⟨x, t, rfl, rfl⟩
  ·rcases keyIs_shape hv with ⟨j, u, rfl, rfl⟩ | ⟨y, u, rfl, rfl⟩
   ·rw [key_ll] at h; exact wpAny_eqBool_int h
   ·rw [key_lr] at h; exact SeqAt.EqAt.int_str i t y u _ _ _ _ h
  ·rcases keyIs_shape hv with ⟨j, u, rfl, rfl⟩ | ⟨y, u, rfl, rfl⟩
   ·rw [key_rl] at h; exact SeqAt.EqAt.str_int x t j u _ _ _ _ h
   ·rw [key_rr] at h; exact wpAny_eqBool_str h
 «strs» := fun k x t v h => by
  rcases keyIs_shape h with ⟨i, u, rfl, e⟩ | ⟨y, u, rfl, e⟩
  ·exact nomatch e
  ·injection e with e1 _
   subst e1
   cases v <;> rfl
end L2
namespace L2
open PySem PySem.Spec PyProof.Rows
inductive V where
 | non | bl (b : Bool) | int (i : Int) | str (x : Str) | byt (b : Array UInt8) | flt (b : UInt64) | ref (a : Addr) | ty (n : String)
 deriving DecidableEq
def RelV : V → Value → Prop
 | .non, u => u = Value.none
 | .bl b, u => u = Value.bool b
 | .int i, u => ∃ t, u = Value.int i t
 | .str x, u => ∃ t, u = Value.str x t
 | .byt b, u => ∃ t, u = Value.bytes b t
 | .flt b, u => ∃ t, u = Value.float b t
 | .ref a, u => u = Value.ref a
 | .ty n, u => u = Value.type n
abbrev Vals : List V → List Value → Prop := Paired RelV
theorem Vals.length {xs : List V} {us : List Value} (r : Vals xs us) : xs.length = us.length := Paired.length r
theorem Vals.get : ∀ {xs : List V} {us : List Value} {i : Nat} {x : V}, Vals xs us → xs[i]? = some x → ∃ u, us[i]? = some u ∧ RelV x u
 | _, _, _, _, .nil, e => by simp at e
 | _, _, 0, _, .cons r _, e => by simp at e; subst e; exact ⟨_, rfl, r⟩
 | _, _, i + 1, x, .cons _ t, e => by
  obtain ⟨u, h1, h2⟩ := Vals.get (i := i) (x := x) t (by simpa using e)
  exact ⟨u, by simpa using h1, h2⟩
theorem Vals.set {x : V} {u : Value} (r : RelV x u) : ∀ {xs : List V} {us : List Value} (i : Nat), Vals xs us → Vals (xs.set i x) (us.set i u)
 | _, _, _, .nil => .nil
 | _, _, 0, .cons _ t => .cons r t
 | _, _, i + 1, .cons q t => .cons q (Vals.set r i t)
theorem Vals.append : ∀ {xs ys : List V} {us ws : List Value}, Vals xs us → Vals ys ws → Vals (xs ++ ys) (us ++ ws)
 | _, _, _, _, .nil, s => s
 | _, _, _, _, .cons r t, s => .cons r (Vals.append t s)
theorem Vals.take : ∀ {xs : List V} {us : List Value} (n : Nat), Vals xs us → Vals (xs.take n) (us.take n)
 | _, _, 0, _ => .nil
 | _, _, _ + 1, .nil => .nil
 | _, _, n + 1, .cons r t => .cons r (Vals.take n t)
theorem Vals.drop : ∀ {xs : List V} {us : List Value} (n : Nat), Vals xs us → Vals (xs.drop n) (us.drop n)
 | _, _, 0, r => r
 | _, _, _ + 1, .nil => .nil
 | _, _, n + 1, .cons _ t => Vals.drop n t
def RelO : Option V → Option Value → Prop
 | some v, some u => RelV v u
 | none, none => True
 | _, _ => False
def KV {κ : Type} : List (κ × V) → List (κ × Value) → Prop := Paired fun (p : κ × V) (q : κ × Value) => p.1 = q.1 ∧ RelV p.2 q.2
def kV : Key → V
 | .inl i => .int i
 | .inr x => .str x
inductive HO where
 | lst (xs : List V)
 | tup (xs : List V)
 | dK (kvs : List (Key × V)) | dT (kvs : List (List Key × V))
 | set (S : Int → Bool) (n : Nat)
 | ins (C dx : Addr) (fs : List (Str × V))
 | own (x : Addr)
 | xd (fs : List (Str × V))
 | met (f x : Addr)
 | rng (lo hi : Int)
 | frz (o : Obj) (u : HO)
 | tbl (ps : Array Value)
 | ext (φ : Heap → Prop)
abbrev Hp := Addr → Option HO
def upd (H : Hp) (a : Addr) (o : HO) : Hp := fun b => if b = a then some o else H b
theorem upd_same {H : Hp} {a : Addr} {o : HO} : upd H a o a = some o := by unfold upd; rw [if_pos rfl]
theorem upd_ne {H : Hp} {a b : Addr} {o : HO} (h : b ≠ a) : upd H a o b = H b := by unfold upd; rw [if_neg h]
theorem ne_of_none {H : Hp} {a b : Addr} {o : HO} (h : H a = some o) (h' : H b = none) : a ≠ b := by
 intro e; subst e; rw [h] at h'; cases h'
section
variable (P : Program) (w : World)
def ObjOk (H : Hp) (h : Heap) (a : Addr) : HO → Prop
 | .lst xs => xs.length ≤ sizeLine ∧ ∃ (its : List Value) (n : Nat), Vals xs its ∧ h.get? a = some { cls := .type "list", data := .seq its.toArray n }
 | .tup xs => xs.length ≤ sizeLine ∧ ∃ its : List Value, Vals xs its ∧ IsTup h a its.toArray
 | .dK kvs => kvs.length ≤ sizeLine ∧ (a == sysModules) = false ∧ ∃ vs, KV kvs vs ∧ h.DictOf (mixKind P w) a vs
 | .dT kvs => kvs.length ≤ sizeLine ∧ (a == sysModules) = false ∧ ∃ xs : List (List Key × Addr × Value),
  Paired (fun (p : List Key × V) (q : List Key × Addr × Value) => p.1 = q.1 ∧ H q.2.1 = some (.tup (p.1.map kV)) ∧ RelV p.2 q.2.2) kvs xs ∧
  ∃ o es ep, h.get? a = some o ∧ o.ExactDict ∧ o.data = .dict es ep ∧ es.toList = xs.map (entryOfKey (tupleKind (mixKind P w))) ∧ (xs.map (·.1)).Nodup
 | .set S n => h.SetOf (intKind P w) a S n
 | .ins C dx fs => H dx = some (.own a) ∧ fs.length ≤ 1000 ∧ dx ≠ a ∧ h.get? a = some (PySem.W.instObj C dx) ∧
  ∃ mA, h.Ns1 dx mA ∧ (∀ f, RelO (fs.lookup f) (mA f)) ∧ PySem.Within mA (fs.map (·.1))
 | .own _ => ∃ o, h.get? a = some o
 | .xd fs => ∃ mA, h.Ns1 a mA ∧ ∀ f, RelO (fs.lookup f) (mA f)
 | .rng lo hi => ∃ t u v, h.get? a = some { cls := .type "range", data := .fields #[.int lo t, .int hi u, .int 1 v] }
 | .frz o u => h.get? a = some o ∧ ObjOk H h a u
 | .tbl ps => h.get? a = some { cls := .none, data := .fields ps }
 | .met f x => h.get? a = some (PySem.W.methodObj (.ref f) (.ref x))
 | .ext φ => φ h ∧ (∃ o, h.get? a = some o) ∧ ∀ h1 h2 : Heap, φ h1 → (∀ o, h1.get? a = some o → h2.get? a = some o) → φ h2
def HOk (H : Hp) (h : Heap) : Prop := ∀ a o, H a = some o → ObjOk P w H h a o
end
section
variable {P : Program} {w : World} {H H' : Hp} {h h' : Heap} {a : Addr} {o : HO}
theorem ObjOk.lt (x : ObjOk P w H h a o) : a < h.objs.size := by
 cases o with
 | lst xs => obtain ⟨_, _, _, _, e⟩ := x; exact Heap.lt_size e
 | tup xs => obtain ⟨_, _, _, p⟩ := x; exact p.lt
 | dK kvs => obtain ⟨_, _, _, _, o, _, _, e, _⟩ := x; exact Heap.lt_size e
 | dT kvs => obtain ⟨_, _, _, _, o, _, _, e, _⟩ := x; exact Heap.lt_size e
 | set S n => obtain ⟨o, _, _, _, e, _⟩ := x; exact Heap.lt_size e
 | ins C dx fs => obtain ⟨_, _, _, e, _⟩ := x; exact Heap.lt_size e
 | own y => obtain ⟨_, e⟩ := x; exact Heap.lt_size e
 | xd fs => obtain ⟨_, ⟨_, _, _, e, _⟩, _⟩ := x; exact Heap.lt_size e
 | rng lo hi => obtain ⟨_, _, _, e⟩ := x; exact Heap.lt_size e
 | frz ob u => obtain ⟨e, _⟩ := x; exact Heap.lt_size e
 | tbl ps => exact Heap.lt_size (show h.get? a = some _ from x)
 | met f y => exact Heap.lt_size (show h.get? a = some _ from x)
 | ext φ => obtain ⟨_, ⟨_, e⟩, _⟩ := x; exact Heap.lt_size e
theorem Paired.mapP {α β : Type} {F G : α → β → Prop} : ∀ {l₁ : List α} {l₂ : List β}, Paired F l₁ l₂ → (∀ a b, F a b → G a b) → Paired G l₁ l₂
 | _, _, .nil, _ => .nil
 | _, _, .cons r t, f => .cons (f _ _ r) (Paired.mapP t f)
theorem ObjOk.stay (x : ObjOk P w H h a o) (k : ∀ b u, (b = a ∨ H b = some (.own a)) → h.get? b = some u → h'.get? b = some u)
 (ho : ∀ b, H b = some (.own a) → H' b = some (.own a)) (ht : ∀ b xs, H b = some (.tup xs) → H' b = some (.tup xs)) : ObjOk P w H' h' a o := by
 induction o with
 | lst xs => obtain ⟨z, its, n, r, e⟩ := x; exact ⟨z, its, n, r, k _ _ (.inl rfl) e⟩
 | tup xs => obtain ⟨z, its, r, ob, e, c⟩ := x; exact ⟨z, its, r, ob, k _ _ (.inl rfl) e, c⟩
 | dK kvs => obtain ⟨z, y, vs, r, ob, es, ep, e, c⟩ := x; exact ⟨z, y, vs, r, ob, es, ep, k _ _ (.inl rfl) e, c⟩
 | dT kvs =>
  obtain ⟨z, y, xs, r, ob, es, ep, e, c⟩ := x
  exact ⟨z, y, xs, Paired.mapP r fun p q z => ⟨z.1, ht _ _ z.2.1, z.2.2⟩, ob, es, ep, k _ _ (.inl rfl) e, c⟩
 | set S n => obtain ⟨ob, es, ep, t, e, c⟩ := x; exact ⟨ob, es, ep, t, k _ _ (.inl rfl) e, c⟩
 | ins C dx fs =>
  obtain ⟨d, z, ne, e, mA, ⟨od, es, ep, e2, c⟩, r⟩ := x
  exact ⟨ho _ d, z, ne, k _ _ (.inl rfl) e, mA, ⟨od, es, ep, k _ _ (.inr d) e2, c⟩, r⟩
 | own y => obtain ⟨ob, e⟩ := x; exact ⟨ob, k _ _ (.inl rfl) e⟩
 | xd fs => obtain ⟨mA, ⟨od, es, ep, e, c⟩, r⟩ := x; exact ⟨mA, ⟨od, es, ep, k _ _ (.inl rfl) e, c⟩, r⟩
 | rng lo hi => obtain ⟨t, u, v, e⟩ := x; exact ⟨t, u, v, k _ _ (.inl rfl) e⟩
 | frz ob u ih => obtain ⟨e, q⟩ := x; exact ⟨k _ _ (.inl rfl) e, ih q⟩
 | tbl ps =>
  have e : h.get? a = some { cls := .none, data := .fields ps } := x
  show h'.get? a = some { cls := .none, data := .fields ps }
  exact k a _ (.inl rfl) e
 | met f y =>
  have e : h.get? a = some (PySem.W.methodObj (.ref f) (.ref y)) := x
  show h'.get? a = some (PySem.W.methodObj (.ref f) (.ref y))
  exact k a _ (.inl rfl) e
 | ext φ => obtain ⟨p, ⟨o, e⟩, st⟩ := x; exact ⟨st _ _ p fun o q => k _ _ (.inl rfl) q, ⟨o, k _ _ (.inl rfl) e⟩, st⟩
theorem HOk.lt (x : HOk P w H h) (e : H a = some o) : a < h.objs.size := (x a o e).lt
theorem HOk.fresh (x : HOk P w H h) (e : h.objs.size ≤ a) : H a = none := by
 cases q : H a with
 | none => rfl
 | some u => exact absurd (Nat.lt_of_lt_of_le (x.lt q) e) (Nat.lt_irrefl _)
theorem HOk.kept (x : HOk P w H h) (k : ∀ b u, h.get? b = some u → h'.get? b = some u) : HOk P w H h' := fun a o e =>
 (x a o e).stay (fun b u _ q => k b u q) (fun _ q => q) fun _ _ q => q
theorem HOk.laid (x : HOk P w H h) (k : ∀ b u, h.get? b = some u → h'.get? b = some u) (hp : h.objs.size ≤ a) (new : ObjOk P w (upd H a o) h' a o) : HOk P w (upd H a o) h' := fun b u e => by
 have hn := x.fresh hp
 by_cases hb : b = a
 ·subst hb; rw [upd_same] at e; cases e; exact new
 ·rw [upd_ne hb] at e
  exact (x b u e).stay (fun c v _ q => k c v q) (fun c q => by rw [upd_ne (ne_of_none q hn)]; exact q) fun c xs q => by rw [upd_ne (ne_of_none q hn)]; exact q
end
def Rd (H : Hp) (a : Addr) (u : HO) : Prop := H a = some u ∨ ∃ o, H a = some (.frz o u)
theorem Rd.ok {P : Program} {w : World} {H : Hp} {h : Heap} {a : Addr} {u : HO} (r : Rd H a u) (x : HOk P w H h) : ObjOk P w H h a u := by
 rcases r with r | ⟨o, r⟩
 ·exact x a u r
 ·obtain ⟨_, q⟩ := x a _ r
  exact q
def Mut : Option HO → Prop
 | some (.lst _) => True
 | some (.dK _) => True
 | some (.dT _) => True
 | some (.set _ _) => True
 | some (.ins _ _ _) => True
 | some (.ext _) => True
 | _ => False
section
variable {P : Program} {w : World} {H : Hp} {h h' : Heap} {x e : Addr} {o' : HO}
theorem HOk.write (ok : HOk P w H h) (mu : Mut (H x)) (he : e = x ∨ H e = some (.own x)) (k : ∀ b u, b ≠ e → h.get? b = some u → h'.get? b = some u) (heo : ∃ u, h'.get? e = some u)
 (new : ObjOk P w (upd H x o') h' x o') : HOk P w (upd H x o') h' := fun b u q => by
 have nown : ∀ c y, H c = some (.own y) → c ≠ x := fun c y r z => by subst z; rw [r] at mu; exact mu
 have ntup : ∀ c xs, H c = some (.tup xs) → c ≠ x := fun c xs r z => by subst z; rw [r] at mu; exact mu
 by_cases hb : b = x
 ·subst hb; rw [upd_same] at q; cases q; exact new
 ·rw [upd_ne hb] at q
  by_cases hbe : b = e
  ·have q' : H b = some (.own x) := by
    rcases he with z | z
    ·exact absurd (hbe.trans z) hb
    ·rw [hbe]; exact z
   rw [q] at q'; cases q'
   obtain ⟨v, hv⟩ := heo
   exact ⟨v, by rw [hbe]; exact hv⟩
  ·refine (ok b u q).stay (fun c v hc r => k c v ?_ r) (fun c r => by rw [upd_ne (nown c b r)]; exact r) fun c xs r => by rw [upd_ne (ntup c xs r)]; exact r
   rcases hc with rfl | hc
   ·exact hbe
   ·rintro rfl
    rcases he with z | z
    ·exact nown c b hc z
    ·rw [hc] at z; cases z; exact hb rfl
end
structure Un (fs ex : List Addr) (H H' : Hp) (h h' : Heap) : Prop where
 keep : ∀ b o, h.get? b = some o → H b = none → b ∉ fs → b ∉ ex → h'.get? b = some o
 slot : ∀ b o, h.get? b = some o → H b = none → b ∈ fs → b ∉ ex → ∃ sl, h'.get? b = some { o with slots := sl }
 free : ∀ b o, h.get? b = some o → H b = none → b ∉ ex → H' b = none
 there : ∀ b o, h.get? b = some o → b ∉ ex → ∃ o', h'.get? b = some o'
 tups : ∀ b xs, H b = some (.tup xs) → H' b = some (.tup xs)
 frzs : ∀ b o u, H b = some (.frz o u) → H' b = some (.frz o u)
 tbls : ∀ b ps, H b = some (.tbl ps) → ∃ more, H' b = some (.tbl (ps ++ more))
section
variable {fs fs' ex ex' : List Addr} {H H1 H2 : Hp} {h h1 h2 h' : Heap} {a x e : Addr} {o : HO}
theorem Un.any (u : Un fs ex H H1 h h1) {b : Addr} {ob : Obj} (q : h.get? b = some ob) (n : H b = none) (hx : b ∉ ex) : ∃ sl, h1.get? b = some { ob with slots := sl } := by
 by_cases hb : b ∈ fs
 ·exact u.slot b ob q n hb hx
 ·exact ⟨ob.slots, u.keep b ob q n hb hx⟩
theorem Un.kept (k : ∀ b u, h.get? b = some u → h'.get? b = some u) : Un fs ex H H h h' :=
 ⟨fun b ob q _ _ _ => k b ob q, fun b ob q _ _ _ => ⟨ob.slots, k b ob q⟩, fun _ _ _ n _ => n, fun b ob q _ => ⟨ob, k b ob q⟩, fun _ _ q => q, fun _ _ _ q => q, fun _ ps q => ⟨#[], by rw [q]; simp⟩⟩
theorem Un.refl : Un fs ex H H h h := Un.kept fun _ _ q => q
theorem Un.laid (k : ∀ b u, h.get? b = some u → h'.get? b = some u) (hp : h.objs.size ≤ a) (hn : H a = none) : Un fs ex H (upd H a o) h h' where
 keep := fun b u q _ _ _ => k b u q
 slot := fun b u q _ _ _ => ⟨u.slots, k b u q⟩
 free := fun b u q n _ => by rw [upd_ne (Nat.ne_of_lt (Nat.lt_of_lt_of_le (Heap.lt_size q) hp))]; exact n
 there := fun b u q _ => ⟨u, k b u q⟩
 tups := fun b xs q => by rw [upd_ne (ne_of_none q hn)]; exact q
 frzs := fun b u xs q => by rw [upd_ne (ne_of_none q hn)]; exact q
 tbls := fun b ps q => ⟨#[], by rw [upd_ne (ne_of_none q hn), q]; simp⟩
theorem Un.write (mu : Mut (H x)) (he : e = x ∨ H e = some (.own x)) (k : ∀ b u, b ≠ e → h.get? b = some u → h'.get? b = some u) (heo : ∃ u, h'.get? e = some u) : Un fs ex H (upd H x o) h h' := by
 have hx : ∀ b, H b = none → b ≠ x := fun b n z => by subst z; rw [n] at mu; exact mu
 have hb : ∀ b, H b = none → b ≠ e := fun b n z => by
  subst z
  rcases he with r | r
  ·exact hx b n r
  ·rw [n] at r; cases r
 have hm : ∀ b u, H b = some u → ¬ Mut (some u) → b ≠ x := fun b u q nm z => by subst z; rw [q] at mu; exact nm mu
 refine ⟨fun b u q n _ _ => k b u (hb b n) q, fun b u q n _ _ => ⟨u.slots, k b u (hb b n) q⟩, fun b u q n _ => by rw [upd_ne (hx b n)]; exact n, fun b u q _ => ?_,
  fun b xs q => by rw [upd_ne (hm b _ q fun z => z)]; exact q, fun b u xs q => by rw [upd_ne (hm b _ q fun z => z)]; exact q, fun b ps q => ⟨#[], by rw [upd_ne (hm b _ q fun z => z), q]; simp⟩⟩
 by_cases hbe : b = e
 ·subst hbe; exact heo
 ·exact ⟨u, k b u hbe q⟩
end
def trk (h : Heap) (H : Hp) : List Addr := (List.range h.objs.size).filter fun a => (H a).isSome
def hidT (h : Heap) (H : Hp) : Heap := PySem.W.hideAll h (trk h H)
theorem hidT_size (h : Heap) (H : Hp) : (hidT h H).objs.size = h.objs.size := PySem.W.hideAll_size _ _
theorem hidT_get {h : Heap} {H : Hp} {b : Addr} {o : Obj} (e : h.get? b = some o) (n : H b = none) : (hidT h H).get? b = some o :=
 PySem.W.hideAll_get _ e fun hm => by
  have q : (H b).isSome = true := (List.mem_filter.mp hm).2
  rw [n] at q; simp at q
theorem of_hidT {h : Heap} {H : Hp} {b : Addr} {o : Obj} (e : (hidT h H).get? b = some o) : h.get? b = some o ∧ H b = none := by
 have e' : h.get? b = some o := PySem.W.of_hideAll (trk h H) e
 refine ⟨e', ?_⟩
 cases q : H b with
 | none => rfl
 | some x =>
  have hm : b ∈ trk h H := List.mem_filter.mpr ⟨List.mem_range.mpr (Heap.lt_size e'), by simp [q]⟩
  have z : (hidT h H).get? b = none := PySem.W.hideAll_none (trk h H) hm
  rw [z] at e; cases e
def allNews (g h : Heap) (L : Addr) : List (Addr × Obj) := (List.range h.objs.size).filterMap fun a => if a = L ∨ (g.get? a).isSome = true then none else (h.get? a).map fun o => (a, o)
def rest (g h : Heap) (L d : Addr) : List (Addr × Obj) := (allNews g h L).filter fun p => decide (p.1 ≠ d)
end L2
namespace L2
open PySem PySem.Spec PyProof.Rows
structure Mod (K : PySem.W.Frag) (mg : Str → Option Value) (base : Heap) : Prop where
 kin : K.In base
 glob : base.Ns mainGlobals mg
 blt : ∃ mb, base.Ns builtinsNs mb ∧ ∀ x : Str, x ≠ "__name__" → mb x = bootBuiltins x
 nolimit : base.NoLimit
structure Cx where
 prog : Program
 w : World
 K : PySem.W.Frag
 mg : Str → Option Value
 base : Heap
 A : Around
 N : List Str
 s₀ : Shared
 H₀ : Hp
 env : Env
 outer : List Env
 stack : List Env
 ex : List Addr
 fn : Str → Bool
 calm : Bool
 pn : List (Addr × Obj)
 xe : Value → Shared → Prop
def frs (l : List Env) : List Addr := l.filterMap (·.frame)
abbrev Cx.fs (X : Cx) : List Addr := frs X.outer
def Vis (sc : Scope) (x : Str) : Prop := sc.names.lookup x = some .local ∨ sc.names.lookup x = some .cell ∨ sc.names.lookup x = some .free
def Loc (sc : Scope) (x : Str) : Prop := sc.names.lookup x = some .local ∨ sc.names.lookup x = some .cell
def Look (env : Env) (h : Heap) (m : Str → Option Value) (x : Str) (u : Value) : Prop :=
 (env.kindOf x = some .local ∧ m x = some u) ∨ ((env.kindOf x = some .cell ∨ env.kindOf x = some .free) ∧ ∃ c, env.cells.lookup x = some c ∧ h.IsCell c (some u))
structure Cx.Ok (X : Cx) : Prop where
 mod : Mod X.K X.mg X.base
 kind : X.env.scope.kind = .function
 glob : X.env.globals = mainGlobals
 blt : X.env.builtins = builtinsNs
 above : X.s₀.heap.objs.size ≤ X.env.locals
 inj : ∀ x y c, X.env.cells.lookup x = some c → X.env.cells.lookup y = some c → x = y
 has : ∀ x, (X.env.kindOf x = some .cell ∨ X.env.kindOf x = some .free) → ∃ c, X.env.cells.lookup x = some c
 cab : ∀ x c, X.fn x = true → X.env.cells.lookup x = some c → X.s₀.heap.objs.size ≤ c
 hd : X.calm = true → X.A.handled = none
 frames : X.A.frames = some X.stack
 stk : X.stack = X.outer ∨ (X.stack = X.env :: X.outer ∧ X.env.frame = some X.env.locals)
 exf : ∀ b ∈ X.ex, b ≠ X.env.locals ∧ ∀ x c, X.env.cells.lookup x = some c → c ≠ b
 bs : ∀ b o, X.base.get? b = some o → X.s₀.heap.get? b = some o ∧ X.H₀ b = none
 bsz : X.base.objs.size ≤ X.s₀.heap.objs.size
 noex : ∀ b o, X.base.get? b = some o → b ∉ X.ex
 exfs : ∀ b ∈ X.ex, b ∉ X.fs
 funs : X.s₀.heap.FunFrames X.base X.outer
 frf : ∀ b ∈ X.fs, X.H₀ b = none
structure Inv (X : Cx) (pins : List (Addr × Obj)) (σ : List (Option V)) (H : Hp) (s : Shared) : Prop where
 ok : X.Ok
 os : s.os = X.s₀.os
 bare : AllBare s.gens
 base : Un X.fs X.ex X.H₀ H X.s₀.heap s.heap
 loc : ∃ m, s.heap.Ns X.env.locals m ∧ ∀ (i : Nat) (x : Str) (v : V), X.N[i]? = some x → σ[i]? = some (some v) → Vis X.env.scope x → ∃ u, RelV v u ∧ Look X.env s.heap m x u
 cell : ∀ x c, X.env.cells.lookup x = some c → ∃ v, s.heap.IsCell c v
 free : H X.env.locals = none
 freeC : ∀ x c, X.env.cells.lookup x = some c → H c = none
 pin : ∀ p ∈ X.pn ++ pins, s.heap.get? p.1 = some p.2 ∧ H p.1 = none ∧ p.1 ≠ X.env.locals ∧ p.1 ∉ X.fs ∧ ∀ v, p.2.data ≠ .cell v
 hok : HOk X.prog X.w H s.heap
 len : σ.length = X.N.length
section
variable {X : Cx} {pins : List (Addr × Obj)} {σ : List (Option V)} {H H' : Hp} {s : Shared} {h' : Heap}
theorem Cx.Ok.nofr (ok : X.Ok) {b : Addr} {o : Obj} (e : X.base.get? b = some o) : b ∉ X.fs := fun hb => by
 have := (ok.funs.mem hb).1
 rw [e] at this; cases this
theorem Inv.bs (I : Inv X pins σ H s) : ∀ b o, X.base.get? b = some o → s.heap.get? b = some o ∧ H b = none := fun b o e =>
 ⟨I.base.keep b o (I.ok.bs b o e).1 (I.ok.bs b o e).2 (I.ok.nofr e) (I.ok.noex b o e), I.base.free b o (I.ok.bs b o e).1 (I.ok.bs b o e).2 (I.ok.noex b o e)⟩
theorem Inv.bk (I : Inv X pins σ H s) : ∀ b o, X.base.get? b = some o → s.heap.get? b = some o := fun b o e => (I.bs b o e).1
theorem Inv.mod (I : Inv X pins σ H s) : Mod X.K X.mg X.base := I.ok.mod
theorem Inv.kIn (I : Inv X pins σ H s) : X.K.In s.heap := I.ok.mod.kin.keeps I.bk
theorem Inv.fr (I : Inv X pins σ H s) : ∃ m, Fr X.base X.env.locals s.heap m :=
 let ⟨m, hn, _⟩ := I.loc
 ⟨m, hn, I.bk, Nat.le_trans I.ok.bsz I.ok.above⟩
theorem Inv.lt (I : Inv X pins σ H s) : X.env.locals < s.heap.objs.size := let ⟨_, hn, _⟩ := I.loc; hn.lt
theorem Inv.sz (I : Inv X pins σ H s) : X.s₀.heap.objs.size ≤ s.heap.objs.size := Nat.le_trans I.ok.above (Nat.le_of_lt I.lt)
theorem Inv.nofs (I : Inv X pins σ H s) {a : Addr} (h : s.heap.objs.size ≤ a) : a ∉ X.fs := fun hb => by
 obtain ⟨_, o, ho, _⟩ := I.ok.funs.mem hb
 exact absurd (Nat.lt_of_lt_of_le (Heap.lt_size ho) (Nat.le_trans I.sz h)) (Nat.lt_irrefl _)
theorem Inv.cne (I : Inv X pins σ H s) : ∀ x c, X.env.cells.lookup x = some c → c ≠ X.env.locals := fun x c e z => by
 obtain ⟨v, o, ho, hd⟩ := I.cell x c e
 obtain ⟨m, ⟨o', es, ep, ho', hd', _⟩, _⟩ := I.loc
 rw [z, ho'] at ho; cases ho; rw [hd'] at hd; cases hd
theorem Inv.funs (I : Inv X pins σ H s) : s.heap.FunFrames X.base X.outer := by
 have all : ∀ (l : List Env), (∀ b ∈ frs l, b ∈ X.fs) → X.s₀.heap.FunFrames X.base l → s.heap.FunFrames X.base l := by
  intro l
  induction l with
  | nil => intro _ _; trivial
  | cons env r ih =>
   intro hs hl
   obtain ⟨hk, ⟨L, o, hf, hn, ho, hd⟩, hr⟩ := hl
   have hL : L ∈ X.fs := hs L (by unfold frs; rw [List.filterMap_cons, hf]; exact List.mem_cons_self)
   obtain ⟨sl, e⟩ := I.base.slot L o ho (I.ok.frf L hL) hL fun z => I.ok.exfs L z hL
   exact ⟨hk, ⟨L, _, hf, hn, e, hd⟩, ih (fun b hb => hs b (by unfold frs; rw [List.filterMap_cons, hf]; exact List.mem_cons_of_mem _ hb)) hr⟩
 exact all X.outer (fun _ hb => hb) I.ok.funs
theorem Inv.stack (I : Inv X pins σ H s) : s.heap.FunFrames X.base X.stack := by
 rcases I.ok.stk with e | ⟨e, hf⟩
 ·rw [e]; exact I.funs
 ·rw [e]
  obtain ⟨m, hn, _⟩ := I.loc
  refine .cons (by rw [I.ok.kind]; decide) hf hn ?_ I.funs
  exact Heap.get?_none_of_le (Nat.le_trans I.ok.bsz I.ok.above)
theorem Inv.stkSub (I : Inv X pins σ H s) : ∀ b ∈ frs X.stack, b ∈ X.env.locals :: X.fs := fun b hb => by
 rcases I.ok.stk with e | ⟨e, hf⟩
 ·rw [e] at hb; exact List.mem_cons_of_mem _ hb
 ·rw [e] at hb
  unfold frs at hb
  rw [List.filterMap_cons, hf] at hb
  exact hb
theorem Inv.stkFree (I : Inv X pins σ H s) : ∀ b ∈ frs X.stack, H b = none := fun b hb => by
 rcases List.mem_cons.mp (I.stkSub b hb) with e | hb
 ·rw [e]; exact I.free
 ·obtain ⟨_, o, ho, _⟩ := I.ok.funs.mem hb
  exact I.base.free b o ho (I.ok.frf b hb) fun z => I.ok.exfs b z hb
theorem Inv.step {g' : Array GenState} {t' : Nat} {d' : Drawn} {ch : List Addr} (I : Inv X pins σ H s)
 (hch : ∀ b ∈ ch, (b ∈ X.ex ∨ X.s₀.heap.objs.size ≤ b) ∧ b ≠ X.env.locals ∧ (∀ x c, X.env.cells.lookup x = some c → c ≠ b) ∧ ∀ p ∈ X.pn ++ pins, p.1 ≠ b)
 (keep : ∀ b o, b ≠ X.env.locals → b ∉ X.fs → b ∉ ch → s.heap.get? b = some o → H b = none → h'.get? b = some o)
 (slot : ∀ b o, b ≠ X.env.locals → b ∈ X.fs → b ∉ ch → s.heap.get? b = some o → H b = none → ∃ sl, h'.get? b = some { o with slots := sl }) (free : ∀ b o, b ∉ ch → s.heap.get? b = some o → H b = none → H' b = none)
 (there : ∀ b o, b ∉ ch → s.heap.get? b = some o → ∃ o', h'.get? b = some o')
 (tups : ∀ b xs, H b = some (.tup xs) → H' b = some (.tup xs)) (frzs : ∀ b o u, H b = some (.frz o u) → H' b = some (.frz o u)) (tbls : ∀ b ps, H b = some (.tbl ps) → ∃ more, H' b = some (.tbl (ps ++ more)))
 (ns : ∀ m, s.heap.Ns X.env.locals m → h'.Ns X.env.locals m) (hok : HOk X.prog X.w H' h') (hg : AllBare g') :
 Inv X pins σ H' { s with heap := h', gens := g', drawn := d', toks := t' } := by
 have neL : ∀ b o, X.s₀.heap.get? b = some o → b ≠ X.env.locals := fun b o e => Nat.ne_of_lt (Nat.lt_of_lt_of_le (Heap.lt_size e) I.ok.above)
 have neC : ∀ b o, X.s₀.heap.get? b = some o → b ∉ X.ex → b ∉ ch := fun b o e hx hb => by
  rcases (hch b hb).1 with z | z
  ·exact hx z
  ·exact absurd (Nat.lt_of_lt_of_le (Heap.lt_size e) z) (Nat.lt_irrefl _)
 have cellK : ∀ x c, X.env.cells.lookup x = some c → ∀ v, s.heap.IsCell c v → h'.IsCell c v := fun x c e v ⟨o, ho, hd⟩ => by
  have nch : c ∉ ch := fun z => (hch c z).2.2.1 x c e rfl
  by_cases hc : c ∈ X.fs
  ·obtain ⟨sl, q⟩ := slot c o (I.cne x c e) hc nch ho (I.freeC x c e)
   exact ⟨_, q, hd⟩
  ·exact ⟨o, keep c o (I.cne x c e) hc nch ho (I.freeC x c e), hd⟩
 refine ⟨I.ok, I.os, hg, ⟨fun b o e n hb hx => ?_, fun b o e n hb hx => ?_, fun b o e n hx => ?_, fun b o e hx => ?_, fun b xs e => tups b xs (I.base.tups b xs e), fun b o xs e => frzs b o xs (I.base.frzs b o xs e), fun b ps e => ?_⟩, ?_, fun x c e => ?_, ?_, fun x c e => ?_, fun p hp => ?_, hok, I.len⟩
 ·exact keep b o (neL b o e) hb (neC b o e hx) (I.base.keep b o e n hb hx) (I.base.free b o e n hx)
 ·obtain ⟨sl, e1⟩ := I.base.slot b o e n hb hx
  obtain ⟨sl', e2⟩ := slot b _ (neL b o e) hb (neC b o e hx) e1 (I.base.free b o e n hx)
  exact ⟨sl', e2⟩
 ·obtain ⟨o', e1⟩ := I.base.there b o e hx
  exact free b o' (neC b o e hx) e1 (I.base.free b o e n hx)
 ·obtain ⟨o', e1⟩ := I.base.there b o e hx
  exact there b o' (neC b o e hx) e1
 ·obtain ⟨m1, e1⟩ := I.base.tbls b ps e
  obtain ⟨m2, e2⟩ := tbls b _ e1
  exact ⟨m1 ++ m2, by rw [e2, Array.append_assoc]⟩
 ·obtain ⟨m, hn, hl⟩ := I.loc
  refine ⟨m, ns m hn, fun i x v e1 e2 e3 => ?_⟩
  obtain ⟨u, r, l⟩ := hl i x v e1 e2 e3
  refine ⟨u, r, ?_⟩
  rcases l with l | ⟨k, c, e, z⟩
  ·exact .inl l
  ·exact .inr ⟨k, c, e, cellK x c e _ z⟩
 ·obtain ⟨v, z⟩ := I.cell x c e
  exact ⟨v, cellK x c e v z⟩
 ·obtain ⟨m, ⟨o, _, _, ho, _⟩, _⟩ := I.loc
  exact free _ o (fun z => (hch _ z).2.1 rfl) ho I.free
 ·obtain ⟨v, o, ho, hd⟩ := I.cell x c e
  exact free c o (fun z => (hch c z).2.2.1 x c e rfl) ho (I.freeC x c e)
 ·obtain ⟨e, n, ne, nf, d⟩ := I.pin p hp
  have nch : p.1 ∉ ch := fun z => (hch p.1 z).2.2.2 p hp rfl
  exact ⟨keep p.1 p.2 ne nf nch e n, free p.1 p.2 nch e n, ne, nf, d⟩
theorem Inv.un {t' : Nat} (I : Inv X pins σ H s) (u : Un X.fs [] H H' s.heap h') (hok : HOk X.prog X.w H' h') : Inv X pins σ H' { s with heap := h', toks := t' } := by
 obtain ⟨m, ⟨o, es, ep, ho, r⟩, _⟩ := id I.loc
 obtain ⟨sl, hL⟩ := u.any ho I.free (by simp)
 exact I.step (g' := s.gens) (d' := s.drawn) (ch := []) (fun _ z => nomatch z) (fun b o _ hb _ e n => u.keep b o e n hb (by simp)) (fun b o _ hb _ e n => u.slot b o e n hb (by simp)) (fun b o _ e n => u.free b o e n (by simp)) (fun b o _ e => u.there b o e (by simp)) u.tups u.frzs u.tbls (fun m' hm => by
  obtain ⟨o', es', ep', ho', r'⟩ := hm
  rw [ho] at ho'; cases ho'
  exact ⟨_, es', ep', hL, r'⟩) hok I.bare
theorem Inv.call {g' : Array GenState} {t' : Nat} {d' : Drawn} {ch : List Addr} (I : Inv X pins σ H s) (u : Un (frs X.stack) ch H H' s.heap h') (hok : HOk X.prog X.w H' h') (hg : AllBare g')
 (hch : ∀ b ∈ ch, (b ∈ X.ex ∨ X.s₀.heap.objs.size ≤ b) ∧ b ≠ X.env.locals ∧ (∀ x c, X.env.cells.lookup x = some c → c ≠ b) ∧ ∀ p ∈ X.pn ++ pins, p.1 ≠ b) :
 Inv X pins σ H' { s with heap := h', gens := g', drawn := d', toks := t' } := by
 obtain ⟨m, ⟨o, es, ep, ho, r⟩, _⟩ := id I.loc
 obtain ⟨sl, hL⟩ := u.any ho I.free fun z => (hch _ z).2.1 rfl
 exact I.step (ch := ch) hch (fun b o hL hb hc e n => u.keep b o e n (fun z => (List.mem_cons.mp (I.stkSub b z)).elim hL hb) hc) (fun b o _ _ hc e n => u.any e n hc) (fun b o hc e n => u.free b o e n hc) (fun b o hc e => u.there b o e hc) u.tups u.frzs u.tbls (fun m' hm => by
  obtain ⟨o', es', ep', ho', r'⟩ := hm
  rw [ho] at ho'; cases ho'
  exact ⟨_, es', ep', hL, r'⟩) hok hg
theorem Inv.turned {t' : Nat} {it : Addr} (I : Inv X pins σ H s) (k : ∀ b o, b ≠ it → s.heap.get? b = some o → h'.get? b = some o) (hn : H it = none) (hL : it ≠ X.env.locals)
 (h1 : it ∈ X.ex ∨ X.s₀.heap.objs.size ≤ it) (h2 : ∀ x c, X.env.cells.lookup x = some c → c ≠ it) (h3 : ∀ p ∈ X.pn ++ pins, p.1 ≠ it) : Inv X pins σ H { s with heap := h', toks := t' } := by
 have nit : ∀ b u, H b = some u → b ≠ it := fun b u e z => by rw [z, hn] at e; cases e
 refine I.step (g' := s.gens) (d' := s.drawn) (ch := [it]) (fun b hb => ?_) (fun b o _ _ hc e _ => k b o (fun z => hc (by simp [z])) e) (fun b o _ _ hc e _ => ⟨o.slots, k b o (fun z => hc (by simp [z])) e⟩) (fun _ _ _ _ n => n)
  (fun b o hc e => ⟨o, k b o (fun z => hc (by simp [z])) e⟩) (fun _ _ e => e) (fun _ _ _ e => e) (fun b ps e => ⟨#[], by rw [e]; simp⟩) (fun m hm => ?_) (fun b u e => ?_) I.bare
 ·have e : b = it := by simpa using hb
  subst e
  exact ⟨h1, hL, h2, h3⟩
 ·obtain ⟨o, es, ep, ho, r⟩ := hm
  exact ⟨o, es, ep, k _ o (Ne.symm hL) ho, r⟩
 ·refine (I.hok b u e).stay (fun c v hc q => k c v ?_ q) (fun _ q => q) fun _ _ q => q
  rcases hc with z | z
  ·rw [z]; exact nit b u e
  ·exact nit c _ z
theorem Inv.tok (I : Inv X pins σ H s) (t : Nat) : Inv X pins σ H { s with toks := t } := I.un (h' := s.heap) (t' := t) Un.refl I.hok
theorem Inv.kept {t' : Nat} (I : Inv X pins σ H s) (k : ∀ b u, s.heap.get? b = some u → h'.get? b = some u) : Inv X pins σ H { s with heap := h', toks := t' } := I.un (Un.kept k) (I.hok.kept k)
theorem Inv.laid {a : Addr} {o : HO} {t' : Nat} (I : Inv X pins σ H s) (k : ∀ b u, s.heap.get? b = some u → h'.get? b = some u) (hp : s.heap.objs.size ≤ a) (new : ObjOk X.prog X.w (upd H a o) h' a o) :
 Inv X pins σ (upd H a o) { s with heap := h', toks := t' } := I.un (Un.laid k hp (I.hok.fresh hp)) (I.hok.laid k hp new)
theorem Inv.write {x e : Addr} {o : HO} {t' : Nat} (I : Inv X pins σ H s) (mu : Mut (H x)) (he : e = x ∨ H e = some (.own x)) (k : ∀ b u, b ≠ e → s.heap.get? b = some u → h'.get? b = some u) (heo : ∃ u, h'.get? e = some u)
 (new : ObjOk X.prog X.w (upd H x o) h' x o) : Inv X pins σ (upd H x o) { s with heap := h', toks := t' } := I.un (Un.write mu he k heo) (I.hok.write mu he k heo new)
theorem Inv.pins_of {pins' : List (Addr × Obj)} (I : Inv X pins σ H s) (h : ∀ p ∈ pins', s.heap.get? p.1 = some p.2 ∧ H p.1 = none ∧ p.1 ≠ X.env.locals ∧ p.1 ∉ X.fs ∧ ∀ v, p.2.data ≠ .cell v) : Inv X pins' σ H s :=
 ⟨I.ok, I.os, I.bare, I.base, I.loc, I.cell, I.free, I.freeC, fun p hp => (List.mem_append.mp hp).elim (fun z => I.pin p (List.mem_append_left _ z)) (h p), I.hok, I.len⟩
theorem nodup_ix {N : List Str} (hN : N.Nodup) {i j : Nat} {x : Str} (a : N[i]? = some x) (b : N[j]? = some x) : i = j := by
 obtain ⟨h1, e1⟩ := List.getElem?_eq_some_iff.mp a
 obtain ⟨h2, e2⟩ := List.getElem?_eq_some_iff.mp b
 exact (List.getElem_inj hN).mp (e1.trans e2.symm)
theorem store_ok2 {M : Model} {A : Around} {E : Value → Shared → Prop} {i : Nat} {x : Str} {v : V} {u : Value} {Q : Unit → Shared → Prop} (I : Inv X pins σ H s) (hN : X.N.Nodup) (hi : X.N[i]? = some x) (hx : Loc X.env.scope x) (r : RelV v u)
 (h : ∀ s', Inv X pins (σ.set i (some v)) H s' → (∃ a, Heap.SameBut a s.heap s'.heap ∧ (a = X.env.locals ∨ X.env.cells.lookup x = some a)) → Q () s') (hf : X.fn x = true ∨ X.env.scope.names.lookup x = some .local := by first | exact .inl rfl | exact .inr rfl | assumption) : wpAny M A (storeName X.env x u) Q E s := by
 obtain ⟨m, hn, hl⟩ := id I.loc
 have hcls : (X.env.scope.kind == .class || (X.env.scope.kind == .module && X.env.locals != X.env.globals)) = false := by rw [I.ok.kind]; rfl
 have hiσ : i < σ.length := by rw [I.len]; exact (List.getElem?_eq_some_iff.mp hi).1
 have cne := I.cne
 have tracked : ∀ {a : Addr} {h' : Heap}, (∃ o, s.heap.get? a = some o ∧ H a = none) → Heap.SameBut a s.heap h' → HOk X.prog X.w H h' := fun {a h'} ha hs b ob e => by
  obtain ⟨_, _, hfree⟩ := ha
  refine (I.hok b ob e).stay (fun c w' hc q => (hs.2 c ?_).trans q) (fun _ q => q) fun _ _ q => q
  rintro rfl
  rcases hc with rfl | hc
  ·rw [hfree] at e; cases e
  ·rw [hfree] at hc; cases hc
 rcases hx with hk | hk
 ·refine wpAny_storeName_local hk hn (fun h' hn' hs => ?_) hcls
  obtain ⟨oL, _, _, hoL, _⟩ := id hn
  refine h _ ⟨I.ok, I.os, I.bare, ⟨fun b o e n hb hx => ?_, fun b o e n hb hx => ?_, I.base.free, fun b o e hx => ?_, I.base.tups, I.base.frzs, I.base.tbls⟩, ⟨_, hn', fun j y v' e1 e2 e3 => ?_⟩, fun y c e => ?_, I.free, I.freeC, fun p hp => ?_, tracked ⟨oL, hoL, I.free⟩ hs, by simpa using I.len⟩ ⟨_, hs, .inl rfl⟩
  ·exact (hs.2 b (Nat.ne_of_lt (Nat.lt_of_lt_of_le (Heap.lt_size e) I.ok.above))).trans (I.base.keep b o e n hb hx)
  ·obtain ⟨sl, e1⟩ := I.base.slot b o e n hb hx
   exact ⟨sl, (hs.2 b (Nat.ne_of_lt (Nat.lt_of_lt_of_le (Heap.lt_size e) I.ok.above))).trans e1⟩
  ·obtain ⟨o', e1⟩ := I.base.there b o e hx
   exact ⟨o', (hs.2 b (Nat.ne_of_lt (Nat.lt_of_lt_of_le (Heap.lt_size e) I.ok.above))).trans e1⟩
  ·by_cases hj : j = i
   ·subst hj
    rw [hi] at e1; cases e1
    rw [List.getElem?_set_self hiσ] at e2
    cases e2
    exact ⟨u, r, .inl ⟨hk, by simp⟩⟩
   ·rw [List.getElem?_set_ne (Ne.symm hj)] at e2
    obtain ⟨u', r', q⟩ := hl j y v' e1 e2 e3
    refine ⟨u', r', ?_⟩
    rcases q with ⟨k, e⟩ | ⟨k, c, e, z⟩
    ·refine .inl ⟨k, ?_⟩
     have : y ≠ x := fun e => hj (nodup_ix hN e1 (e ▸ hi))
     simp [this, e]
    ·exact .inr ⟨k, c, e, z.sameBut hs (cne y c e)⟩
  ·obtain ⟨w', z⟩ := I.cell y c e
   exact ⟨w', z.sameBut hs (cne y c e)⟩
  ·obtain ⟨e, n, ne, nf, d⟩ := I.pin p hp
   exact ⟨(hs.2 p.1 ne).trans e, n, ne, nf, d⟩
 ·have hfn : X.fn x = true := by
   rcases hf with z | z
   ·exact z
   ·rw [z] at hk; cases hk
  obtain ⟨c, hc⟩ := I.ok.has x (.inl hk)
  obtain ⟨w', z⟩ := I.cell x c hc
  refine wpAny_storeName_cell I.ok.kind hk hc z (fun h' hc' hs => ?_)
  obtain ⟨oc, hoc, hocd⟩ := id z
  refine h { s with heap := h' } ⟨I.ok, I.os, I.bare, ⟨fun b o e n hb hx => ?_, fun b o e n hb hx => ?_, I.base.free, fun b o e hx => ?_, I.base.tups, I.base.frzs, I.base.tbls⟩, ⟨m, hn.sameBut hs (Ne.symm (cne x c hc)), fun j y v' e1 e2 e3 => ?_⟩, fun y c' e => ?_, I.free, I.freeC, fun p hp => ?_, tracked ⟨oc, hoc, I.freeC x c hc⟩ hs, by simpa using I.len⟩ ⟨c, hs, .inr hc⟩
  ·exact (hs.2 b (Nat.ne_of_lt (Nat.lt_of_lt_of_le (Heap.lt_size e) (I.ok.cab x c hfn hc)))).trans (I.base.keep b o e n hb hx)
  ·obtain ⟨sl, e1⟩ := I.base.slot b o e n hb hx
   exact ⟨sl, (hs.2 b (Nat.ne_of_lt (Nat.lt_of_lt_of_le (Heap.lt_size e) (I.ok.cab x c hfn hc)))).trans e1⟩
  ·obtain ⟨o', e1⟩ := I.base.there b o e hx
   exact ⟨o', (hs.2 b (Nat.ne_of_lt (Nat.lt_of_lt_of_le (Heap.lt_size e) (I.ok.cab x c hfn hc)))).trans e1⟩
  ·by_cases hj : j = i
   ·subst hj
    rw [hi] at e1; cases e1
    rw [List.getElem?_set_self hiσ] at e2
    cases e2
    exact ⟨u, r, .inr ⟨.inl hk, c, hc, hc'⟩⟩
   ·rw [List.getElem?_set_ne (Ne.symm hj)] at e2
    obtain ⟨u', r', q⟩ := hl j y v' e1 e2 e3
    refine ⟨u', r', ?_⟩
    rcases q with q | ⟨k, c', e, z'⟩
    ·exact .inl q
    ·refine .inr ⟨k, c', e, z'.sameBut hs ?_⟩
     rintro rfl
     exact hj (nodup_ix hN e1 (I.ok.inj _ _ _ e hc ▸ hi))
  ·by_cases hcc : c' = c
   ·subst hcc; exact ⟨_, hc'⟩
   ·obtain ⟨w2, z2⟩ := I.cell y c' e
    exact ⟨w2, z2.sameBut hs hcc⟩
  ·obtain ⟨e, n, ne, nf, d⟩ := I.pin p hp
   refine ⟨(hs.2 p.1 ?_).trans e, n, ne, nf, d⟩
   intro q
   rw [q, hoc] at e
   have q' : oc = p.2 := Option.some.inj e
   exact d w' (by rw [← q']; exact hocd)
theorem store_ok {M : Model} {A : Around} {E : Value → Shared → Prop} {i : Nat} {x : Str} {v : V} {u : Value} {Q : Unit → Shared → Prop} (I : Inv X pins σ H s) (hN : X.N.Nodup) (hi : X.N[i]? = some x) (hx : Loc X.env.scope x) (r : RelV v u)
 (h : ∀ s', Inv X pins (σ.set i (some v)) H s' → Q () s') (hf : X.fn x = true ∨ X.env.scope.names.lookup x = some .local := by first | exact .inl rfl | exact .inr rfl | assumption) : wpAny M A (storeName X.env x u) Q E s :=
 store_ok2 I hN hi hx r (fun s' I' _ => h s' I') hf
theorem Inv.call' {s' : Shared} {ch : List Addr} (I : Inv X pins σ H s) (ho : s'.os = s.os) (u : Un (frs X.stack) ch H H' s.heap s'.heap) (hok : HOk X.prog X.w H' s'.heap) (hg : AllBare s'.gens)
 (hch : ∀ b ∈ ch, (b ∈ X.ex ∨ X.s₀.heap.objs.size ≤ b) ∧ b ≠ X.env.locals ∧ (∀ x c, X.env.cells.lookup x = some c → c ≠ b) ∧ ∀ p ∈ X.pn ++ pins, p.1 ≠ b) : Inv X pins σ H' s' := by
 obtain ⟨h', g', d', t', o'⟩ := s'
 have e : o' = s.os := ho
 subst e
 exact I.call (g' := g') (t' := t') (d' := d') u hok hg hch
end
abbrev XK := Value → Option Addr → Hp → Prop
abbrev St := List (Option V)
abbrev VK := V → Hp → Prop
abbrev TE := St → Hp → VK → Prop
abbrev TT := St → Hp → (Bool → Hp → Prop) → Prop
abbrev TA := St → Hp → (List V → Hp → Prop) → Prop
structure Ends where
 nx : St → Hp → Prop
 rt : VK
 bk : St → Hp → Prop := fun _ _ => False
 ct : St → Hp → Prop := fun _ _ => False
abbrev TS := Ends → St → Hp → Prop
def EP (X : Cx) (pins : List (Addr × Obj)) (σ : St) (Q : VK) (u : Value) (s' : Shared) : Prop := ∃ v H', Inv X pins σ H' s' ∧ RelV v u ∧ Q v H'
def TP (X : Cx) (pins : List (Addr × Obj)) (σ : St) (Q : Bool → Hp → Prop) (b : Bool) (s' : Shared) : Prop := ∃ H', Inv X pins σ H' s' ∧ Q b H'
def AP (X : Cx) (pins : List (Addr × Obj)) (σ : St) (Q : List V → Hp → Prop) (us : List Value) (s' : Shared) : Prop := ∃ vs H', Inv X pins σ H' s' ∧ Vals vs us ∧ Q vs H'
def SP (X : Cx) (pins : List (Addr × Obj)) (D : Ends) (f : Flow) (s' : Shared) : Prop :=
 match f with
 | .next => ∃ σ' H', Inv X pins σ' H' s' ∧ D.nx σ' H'
 | .brk => ∃ σ' H', Inv X pins σ' H' s' ∧ D.bk σ' H'
 | .cont => ∃ σ' H', Inv X pins σ' H' s' ∧ D.ct σ' H'
 | .ret u => ∃ v σ' H', Inv X pins σ' H' s' ∧ RelV v u ∧ D.rt v H'
def PE (X : Cx) (e : Expr) (t : TE) : Prop :=
 ∀ (pins : List (Addr × Obj)) (s : Shared) (σ : St) (H : Hp) (Q : VK), Inv X pins σ H s → t σ H Q → wpAny (model X.prog X.w) X.A (eval e X.env) (EP X pins σ Q) X.xe s
def PT (X : Cx) (e : Expr) (t : TT) : Prop :=
 ∀ (pins : List (Addr × Obj)) (s : Shared) (σ : St) (H : Hp) (Q : Bool → Hp → Prop), Inv X pins σ H s → t σ H Q → wpAny (model X.prog X.w) X.A (isTrue e X.env (eval e X.env)) (TP X pins σ Q) X.xe s
def PW (X : Cx) (e : Expr) (t : TT) : Prop :=
 ∀ (whole : Sem Value) (pins : List (Addr × Obj)) (s : Shared) (σ : St) (H : Hp) (Q : Bool → Hp → Prop), Inv X pins σ H s → t σ H Q → wpAny (model X.prog X.w) X.A (isTrue e X.env whole) (TP X pins σ Q) X.xe s
theorem PW.pt {X : Cx} {e : Expr} {t : TT} (h : PW X e t) : PT X e t := h _
def PA (X : Cx) (es : List Expr) (t : TA) : Prop :=
 ∀ (pos : Pos) (pins : List (Addr × Obj)) (s : Shared) (σ : St) (H : Hp) (Q : List V → Hp → Prop), Inv X pins σ H s → t σ H Q → wpAny (model X.prog X.w) X.A (spliced (backTo pos (starEach es X.env))) (AP X pins σ Q) X.xe s
def PS (X : Cx) (st : Stmt) (t : TS) : Prop :=
 ∀ (pins : List (Addr × Obj)) (s : Shared) (σ : St) (H : Hp) (D : Ends), Inv X pins σ H s → t D σ H → wpAny (model X.prog X.w) X.A (exec st X.env) (SP X pins D) X.xe s
def PSs (X : Cx) (st : List Stmt) (t : TS) : Prop :=
 ∀ (pins : List (Addr × Obj)) (s : Shared) (σ : St) (H : Hp) (D : Ends), Inv X pins σ H s → t D σ H → wpAny (model X.prog X.w) X.A (execs st X.env) (SP X pins D) X.xe s
theorem thn {α : Type} {t : Sem α} {Q Q' : α → Shared → Prop} {M : Model} {A : Around} {E : Value → Shared → Prop} {s : Shared} (h : wpAny M A t Q E s) (hQ : ∀ a s, Q a s → Q' a s) : wpAny M A t Q' E s := wpAny_mono h hQ fun _ _ x => x
end L2
namespace L2
open PySem PySem.Spec PyProof.Rows
section
variable {X : Cx}
theorem bin {a b : Expr} {ta tb : TE} (ha : PE X a ta) (hb : PE X b tb) {pins : List (Addr × Obj)} {s : Shared} {σ : St} {H : Hp} {R : V → V → Hp → Prop} (I : Inv X pins σ H s) (h : ta σ H fun x H1 => tb σ H1 fun y H2 => R x y H2)
 {α : Type} {Q : α → Shared → Prop} {f : Value → Value → Sem α}
 (hf : ∀ v u s2 x y H2, Inv X pins σ H2 s2 → RelV x v → RelV y u → R x y H2 → wpAny (model X.prog X.w) X.A (f v u) Q X.xe s2) :
 wpAny (model X.prog X.w) X.A (eval a X.env) (fun v s₁ => wpAny (model X.prog X.w) X.A (eval b X.env) (fun u s₂ => wpAny (model X.prog X.w) X.A (f v u) Q X.xe s₂) X.xe s₁) X.xe s := by
 refine thn (ha pins s σ H _ I h) fun v s1 ⟨x, H1, I1, r1, q1⟩ => ?_
 refine thn (hb pins s1 σ H1 _ I1 q1) fun u s2 ⟨y, H2, I2, r2, q2⟩ => ?_
 exact hf v u s2 x y H2 I2 r1 r2 q2
def tVar (i : Nat) : TE := fun σ H Q => ∃ v, σ[i]? = some (some v) ∧ Q v H
def tC (v : V) : TE := fun _ H Q => Q v H
theorem pe_var {i : Nat} {x : Str} {pos : Pos} (hN : X.N[i]? = some x) (hv : Vis X.env.scope x) (hd : (x == ("__debug__" : Str)) = false := by decide) (hcd : (x == ("__classdict__" : Str)) = false := by decide) : PE X (.Name x pos) (tVar i) := by
 intro pins s σ H Q I h
 obtain ⟨v, e, h⟩ := h
 obtain ⟨m, hn, hl⟩ := I.loc
 obtain ⟨u, r, l⟩ := hl i x v hN e hv
 have fin : EP X pins σ Q u s := ⟨v, H, I, r, h⟩
 rcases l with ⟨hk, hm⟩ | ⟨hk, c, hc, hcell⟩
 ·exact wpAny_Name (wpAny_loadName_local I.ok.kind hk hn hm fin) hd
 ·rcases hk with hk | hk
  ·exact wpAny_Name (wpAny_loadName_cell I.ok.kind hk hc hcell fin) hd
  ·exact wpAny_Name (wpAny_loadName_free I.ok.kind hk hc hcell fin hcd) hd
theorem pe_int {i j pos} : PE X (.Constant (.int i) j pos) (tC (.int i)) := fun _ _ _ H _ I h => wpAny_Constant_int ⟨.int i, H, I.tok _, ⟨_, rfl⟩, h⟩
theorem pe_bl {b j pos} : PE X (.Constant (.bool b) j pos) (tC (.bl b)) := fun _ _ _ H _ I h => Constant_bool ⟨.bl b, H, I, rfl, h⟩
theorem pe_non {j pos} : PE X (.Constant .none j pos) (tC .non) := fun _ _ _ H _ I h => Constant_none ⟨.non, H, I, rfl, h⟩
theorem pe_str {x j pos} : PE X (.Constant (.str x) j pos) (tC (.str x)) := fun _ _ _ H _ I h => Calls.Constant_str ⟨.str x, H, I.tok _, ⟨_, rfl⟩, h⟩
def Gl (X : Cx) (x : Str) : Prop := X.env.kindOf x = some .globalImplicit
theorem ld_glob {E : Value → Shared → Prop} {pins : List (Addr × Obj)} {s : Shared} {σ : St} {H : Hp} {x : Str} {u : Value} {pos : Pos} {Q : Value → Shared → Prop} (I : Inv X pins σ H s) (hg : Gl X x) (hm : X.mg x = some u) (h : Q u s)
 (hd : (x == ("__debug__" : Str)) = false := by decide) : wpAny (model X.prog X.w) X.A (eval (.Name x pos) X.env) Q E s :=
 Calls.Name_function_global I.ok.kind hg (Calls.loadGlobal_global (by rw [I.ok.glob]; exact I.mod.glob.keeps I.bk) hm h) hd
theorem ld_blt {E : Value → Shared → Prop} {pins : List (Addr × Obj)} {s : Shared} {σ : St} {H : Hp} {x : Str} {u : Value} {pos : Pos} {Q : Value → Shared → Prop} (I : Inv X pins σ H s) (hg : Gl X x) (hm : X.mg x = none) (hv : bootBuiltins x = some u) (h : Q u s)
 (hn : x ≠ "__name__" := by decide) (hd : (x == ("__debug__" : Str)) = false := by decide) : wpAny (model X.prog X.w) X.A (eval (.Name x pos) X.env) Q E s := by
 obtain ⟨mb, h1, h2⟩ := I.mod.blt
 exact Calls.Name_function_global I.ok.kind hg (Calls.loadGlobal_builtin (by rw [I.ok.glob]; exact I.mod.glob.keeps I.bk) hm (by rw [I.ok.blt]; exact h1.keeps I.bk) ((h2 x hn).trans hv) h) hd
theorem pe_glob {x : Str} {v : V} {u : Value} {pos : Pos} (hg : Gl X x) (hm : X.mg x = some u) (r : RelV v u) (hd : (x == ("__debug__" : Str)) = false := by decide) : PE X (.Name x pos) (tC v) :=
 fun _ _ _ H _ I h => ld_glob I hg hm ⟨v, H, I, r, h⟩ hd
theorem pe_bltn {x : Str} {v : V} {u : Value} {pos : Pos} (hg : Gl X x) (hm : X.mg x = none) (hv : bootBuiltins x = some u) (r : RelV v u) (hn : x ≠ "__name__" := by decide) (hd : (x == ("__debug__" : Str)) = false := by decide) : PE X (.Name x pos) (tC v) :=
 fun _ _ _ H _ I h => ld_blt I hg hm hv ⟨v, H, I, r, h⟩ hn hd
variable {a b : Expr} {ta tb : TE} {pos : Pos}
def tB (t : TE) : TT := fun σ H Q => t σ H fun x H1 => ∃ c, x = .bl c ∧ Q c H1
theorem pt_val {e : Expr} {t : TE} (h : PE X e t) (he : ∀ whole, isTrue e X.env whole = (do let v ← whole; standAt e.pos; holding [v] (truthy v)) := by intro _; rfl) : PT X e (tB t) := by
 intro pins s σ H Q I hw
 refine isTrue_plain (thn (h pins s σ H _ I hw) fun v s1 ⟨x, H1, I1, r1, q1⟩ => ?_) (he _)
 obtain ⟨d, rfl, q⟩ := q1
 cases r1
 exact wpAny_truthy_bool ⟨H1, I1, q⟩
variable {tA tB' : TT} {rest : List Expr}
def tAnd (t u : TT) : TT := fun σ H Q => t σ H fun c H1 => if c = true then u σ H1 Q else Q false H1
def tOr (t u : TT) : TT := fun σ H Q => t σ H fun c H1 => if c = true then Q true H1 else u σ H1 Q
def tNot (t : TT) : TT := fun σ H Q => t σ H fun c H1 => Q (!c) H1
theorem pw_and1 (ha : PT X a tA) : PW X (.BoolOp .And [a] pos) tA := by
 intro wh pins s σ H Q I h
 refine isTrue_and (thn (ha pins s σ H Q I h) fun c s1 e => ?_)
 cases c with
 | true => exact isTrue_and_nil e
 | false => exact e
theorem pw_or1 (ha : PT X a tA) : PW X (.BoolOp .Or [a] pos) tA := by
 intro wh pins s σ H Q I h
 refine isTrue_or (thn (ha pins s σ H Q I h) fun c s1 e => ?_)
 cases c with
 | false => exact isTrue_or_nil e
 | true => exact e
theorem pw_and (ha : PT X a tA) (hb : PW X (.BoolOp .And (b :: rest) pos) tB') : PW X (.BoolOp .And (a :: b :: rest) pos) (tAnd tA tB') := by
 intro wh pins s σ H Q I h
 refine isTrue_and (thn (ha pins s σ H _ I h) fun c s1 ⟨H1, I1, q1⟩ => ?_)
 cases c with
 | true => exact hb wh pins s1 σ H1 Q I1 q1
 | false => exact ⟨H1, I1, q1⟩
theorem pw_or (ha : PT X a tA) (hb : PW X (.BoolOp .Or (b :: rest) pos) tB') : PW X (.BoolOp .Or (a :: b :: rest) pos) (tOr tA tB') := by
 intro wh pins s σ H Q I h
 refine isTrue_or (thn (ha pins s σ H _ I h) fun c s1 ⟨H1, I1, q1⟩ => ?_)
 cases c with
 | true => exact ⟨H1, I1, q1⟩
 | false => exact hb wh pins s1 σ H1 Q I1 q1
theorem pt_not (ha : PT X a tA) : PT X (.UnaryOp .Not a pos) (tNot tA) := by
 intro pins s σ H Q I h
 exact isTrue_not (ha pins s σ H (fun c H1 => Q (!c) H1) I h)
def tAndV (ta tb : TE) : TE := fun σ H Q => ta σ H fun x H1 => ∃ c, x = .bl c ∧ if c = true then tb σ H1 Q else Q (.bl false) H1
def tOrV (ta tb : TE) : TE := fun σ H Q => ta σ H fun x H1 => ∃ c, x = .bl c ∧ if c = true then Q (.bl true) H1 else tb σ H1 Q
def tNotV (ta : TE) : TE := fun σ H Q => ta σ H fun x H1 => ∃ c, x = .bl c ∧ Q (.bl (!c)) H1
theorem pe_one {op} {t : TE} (h : PE X a t) : PE X (.BoolOp op [a] pos) t := fun pins s σ H Q I hw => BoolOp_one (h pins s σ H Q I hw)
theorem pe_and (ha : PE X a ta) (hb : PE X (.BoolOp .And (b :: rest) pos) tb) : PE X (.BoolOp .And (a :: b :: rest) pos) (tAndV ta tb) := by
 intro pins s σ H Q I h
 refine BoolOp_and (thn (ha pins s σ H _ I h) fun v s1 ⟨x, H1, I1, r1, q1⟩ => ?_)
 obtain ⟨c, rfl, q1⟩ := q1
 cases r1
 refine wpAny_truthy_bool ?_
 cases c with
 | true => exact hb pins s1 σ H1 Q I1 q1
 | false => exact ⟨.bl false, H1, I1, rfl, q1⟩
theorem pe_or (ha : PE X a ta) (hb : PE X (.BoolOp .Or (b :: rest) pos) tb) : PE X (.BoolOp .Or (a :: b :: rest) pos) (tOrV ta tb) := by
 intro pins s σ H Q I h
 refine BoolOp_or (thn (ha pins s σ H _ I h) fun v s1 ⟨x, H1, I1, r1, q1⟩ => ?_)
 obtain ⟨c, rfl, q1⟩ := q1
 cases r1
 refine wpAny_truthy_bool ?_
 cases c with
 | false => exact hb pins s1 σ H1 Q I1 q1
 | true => exact ⟨.bl true, H1, I1, rfl, q1⟩
theorem pe_not (ha : PE X a ta) : PE X (.UnaryOp .Not a pos) (tNotV ta) := by
 intro pins s σ H Q I h
 refine UnaryOp_ (thn (ha pins s σ H _ I h) fun v s1 ⟨x, H1, I1, r1, q1⟩ => ?_)
 obtain ⟨c, rfl, q1⟩ := q1
 cases r1
 exact not_of (wpAny_truthy_bool ⟨.bl (!c), H1, I1, rfl, q1⟩)
def tIf (t : TT) (ta tb : TE) : TE := fun σ H Q => t σ H fun c H1 => if c = true then ta σ H1 Q else tb σ H1 Q
theorem pe_ifExp {c : Expr} (hc : PT X c tA) (ha : PE X a ta) (hb : PE X b tb) : PE X (.IfExp c a b pos) (tIf tA ta tb) := by
 intro pins s σ H Q I h
 refine wpAny_IfExp (thn (hc pins s σ H _ I h) fun d s1 ⟨H1, I1, q1⟩ => ?_)
 cases d with
 | true => exact ha pins s1 σ H1 Q I1 q1
 | false => exact hb pins s1 σ H1 Q I1 q1
end
end L2
namespace L2
open PySem PySem.Spec PyProof.Rows
def SqL (K : PySem.W.Frag) (H : Hp) (a : Addr) (xs : List V) : Prop :=
 Rd H a (.lst xs) ∨
  ∃ (o : Obj) (its : Array Value) (n : Nat), K.lookup a = some o ∧ o.cls = .type "list" ∧ o.dict = none ∧ o.data = .seq its n ∧ its.size ≤ sizeLine ∧ Vals xs its.toList
def SqT (K : PySem.W.Frag) (H : Hp) (a : Addr) (xs : List V) : Prop :=
 Rd H a (.tup xs) ∨
  ∃ (o : Obj) (its : Array Value) (n : Nat), K.lookup a = some o ∧ o.cls = .type "tuple" ∧ o.data = .seq its n ∧ its.size ≤ sizeLine ∧ Vals xs its.toList
def absV : Value → Option V
 | .none => some .non
 | .bool b => some (.bl b)
 | .int i _ => some (.int i)
 | .str x _ => some (.str x)
 | .bytes b _ => some (.byt b)
 | .float b _ => some (.flt b)
 | .ref a => some (.ref a)
 | .type n => some (.ty n)
 | _ => none
theorem RelV.abs {x : V} {u : Value} (r : RelV x u) : absV u = some x := by
 cases x with
 | non => cases r; rfl
 | bl _ => cases r; rfl
 | int _ => obtain ⟨t, rfl⟩ := r; rfl
 | str _ => obtain ⟨t, rfl⟩ := r; rfl
 | byt _ => obtain ⟨t, rfl⟩ := r; rfl
 | flt _ => obtain ⟨t, rfl⟩ := r; rfl
 | ref _ => cases r; rfl
 | ty _ => cases r; rfl
theorem RelV.inj {x y : V} {u : Value} (r : RelV x u) (q : RelV y u) : x = y := Option.some.inj (r.abs.symm.trans q.abs)
theorem Vals.inj : ∀ {xs ys : List V} {us : List Value}, Vals xs us → Vals ys us → xs = ys
 | _, _, _, .nil, .nil => rfl
 | _, _, _, .cons r t, .cons r' t' => by rw [r.inj r', Vals.inj t t']
section
variable {X : Cx} {pins : List (Addr × Obj)} {σ : St} {H : Hp} {s : Shared} {a : Addr} {xs ys : List V}
theorem SqL.of {K : PySem.W.Frag} (h : H a = some (.lst xs)) : SqL K H a xs := .inl (.inl h)
theorem SqT.of {K : PySem.W.Frag} (h : H a = some (.tup xs)) : SqT K H a xs := .inl (.inl h)
theorem Inv.list (I : Inv X pins σ H s) (h : SqL X.K H a xs) : ∃ its : List Value, Vals xs its ∧ PlainL s.heap a its.toArray ∧ xs.length ≤ sizeLine := by
 rcases h with h | ⟨o, its, n, hk, hc, hd, hs, hz, r⟩
 ·obtain ⟨z, its, n, r, e⟩ := h.ok I.hok
  exact ⟨its, r, ⟨_, n, e, rfl, rfl, rfl⟩, z⟩
 ·refine ⟨its.toList, r, ⟨o, n, I.kIn a o hk, hc, hd, by simpa using hs⟩, ?_⟩
  have e := r.length
  simp only [Array.length_toList] at e
  omega
theorem Inv.tuple (I : Inv X pins σ H s) (h : SqT X.K H a xs) : ∃ its : List Value, Vals xs its ∧ IsTup s.heap a its.toArray ∧ xs.length ≤ sizeLine := by
 rcases h with h | ⟨o, its, n, hk, hc, hs, hz, r⟩
 ·obtain ⟨z, its, r, p⟩ := h.ok I.hok
  exact ⟨its, r, p, z⟩
 ·refine ⟨its.toList, r, ⟨o, I.kIn a o hk, hc, n, by simpa using hs⟩, ?_⟩
  have e := r.length
  simp only [Array.length_toList] at e
  omega
theorem Inv.list_inj (I : Inv X pins σ H s) (h : SqL X.K H a xs) (h' : SqL X.K H a ys) : xs = ys := by
 obtain ⟨its, r, ⟨o, n, e, _, _, d⟩, _⟩ := I.list h
 obtain ⟨its', r', ⟨o', n', e', _, _, d'⟩, _⟩ := I.list h'
 rw [e] at e'; cases e'
 rw [d] at d'
 injection d' with d1 _
 have : its = its' := by simpa using congrArg Array.toList d1
 subst this
 exact r.inj r'
theorem Inv.tuple_inj (I : Inv X pins σ H s) (h : SqT X.K H a xs) (h' : SqT X.K H a ys) : xs = ys := by
 obtain ⟨its, r, ⟨o, e, _, n, d⟩, _⟩ := I.tuple h
 obtain ⟨its', r', ⟨o', e', _, n', d'⟩, _⟩ := I.tuple h'
 rw [e] at e'; cases e'
 rw [d] at d'
 injection d' with d1 _
 have : its = its' := by simpa using congrArg Array.toList d1
 subst this
 exact r.inj r'
end
section
variable {X : Cx} {pins : List (Addr × Obj)} {σ : St} {H : Hp} {s : Shared} {E : Value → Shared → Prop}
end
section
variable {X : Cx} {st : Stmt} {rest : List Stmt} {t u : TS} {e : Expr} {te : TE} {pos : Pos}
def tNext : TS := fun D σ H => D.nx σ H
def tSeq (t u : TS) : TS := fun D σ H => t { D with nx := u D } σ H
theorem pss_nil : PSs X [] tNext := fun _ _ σ H _ I h => wpAny_execs_nil ⟨σ, H, I, h⟩
theorem pss_cons (h1 : PS X st t) (h2 : PSs X rest u) : PSs X (st :: rest) (tSeq t u) := by
 intro pins s σ H D I h
 refine wpAny_execs_cons (thn (h1 pins s σ H { D with nx := u D } I h) fun f s1 q => ?_)
 cases f with
 | next =>
  obtain ⟨σ', H', I', q⟩ := q
  exact h2 pins s1 σ' H' D I' q
 | ret v => exact q
 | brk => exact q
 | cont => exact q
theorem pss_one (h1 : PS X st t) : PSs X [st] t := by
 intro pins s σ H D I h
 refine wpAny_execs_cons (thn (h1 pins s σ H D I h) fun f s1 q => ?_)
 cases f with
 | next => exact wpAny_execs_nil q
 | ret v => exact q
 | brk => exact q
 | cont => exact q
def tBreak : TS := fun D σ H => D.bk σ H
def tCont : TS := fun D σ H => D.ct σ H
theorem ps_pass : PS X (.Pass pos) tNext := fun _ _ σ H _ I h => wpAny_Pass ⟨σ, H, I, h⟩
theorem ps_break : PS X (.Break pos) tBreak := fun _ _ σ H _ I h => wpAny_Break ⟨σ, H, I, h⟩
theorem ps_continue : PS X (.Continue pos) tCont := fun _ _ σ H _ I h => wpAny_Continue ⟨σ, H, I, h⟩
theorem Inv.quiet {pins : List (Addr × Obj)} {σ : St} {H : Hp} {s : Shared} (I : Inv X pins σ H s) : interactive X.env = false := by simp [interactive, I.ok.kind]
def tDrop (te : TE) : TS := fun D σ H => te σ H fun _ H1 => D.nx σ H1
theorem ps_expr (he : PE X e te) (hs : swapsWith e none pos.line X.env = pure false := by rfl) : PS X (.Expr e pos) (tDrop te) := by
 intro pins s σ H D I h
 exact wpAny_Expr_any (thn (he pins s σ H _ I h) fun v s1 ⟨x, H1, I1, r1, q1⟩ => ⟨σ, H1, I1, q1⟩) I.quiet hs
def tRet (te : TE) : TS := fun D σ H => te σ H D.rt
theorem ps_ret (he : PE X e te) : PS X (.Return (some e) pos) (tRet te) := by
 intro pins s σ H D I h
 exact wpAny_Return_some (thn (he pins s σ H _ I h) fun v s1 ⟨x, H1, I1, r1, q1⟩ => ⟨x, σ, H1, I1, r1, q1⟩)
def tRetN : TS := fun D _ H => D.rt .non H
theorem ps_retN : PS X (.Return none pos) tRetN := fun _ _ σ H _ I h => wpAny_Return_none ⟨.non, σ, H, I, rfl, h⟩
def tIfS (c : TT) (t u : TS) : TS := fun D σ H => c σ H fun b H1 => if b = true then t D σ H1 else u D σ H1
theorem ps_if {c : Expr} {a b : List Stmt} {tc : TT} (hc : PT X c tc) (ha : PSs X a t) (hb : PSs X b u) : PS X (.If c a b pos) (tIfS tc t u) := by
 intro pins s σ H D I h
 refine wpAny_If (thn (hc pins s σ H _ I h) fun d s1 ⟨H1, I1, q1⟩ => ?_)
 cases d with
 | true => exact ha pins s1 σ H1 D I1 q1
 | false => exact hb pins s1 σ H1 D I1 q1
end
abbrev TG := V → St → Hp → (St → Hp → Prop) → Prop
abbrev TGs := List V → St → Hp → (St → Hp → Prop) → Prop
def PG (X : Cx) (target : Expr) (t : TG) : Prop :=
 ∀ (pins : List (Addr × Obj)) (s : Shared) (σ : St) (H : Hp) (v : V) (u : Value) (Q : St → Hp → Prop), Inv X pins σ H s → RelV v u → t v σ H Q →
  wpAny (model X.prog X.w) X.A (assign target X.env u) (fun _ s' => ∃ σ' H', Inv X pins σ' H' s' ∧ Q σ' H') X.xe s
def PGs (X : Cx) (ts : List Expr) (t : TGs) : Prop :=
 ∀ (pins : List (Addr × Obj)) (s : Shared) (σ : St) (H : Hp) (vs : List V) (us : List Value) (Q : St → Hp → Prop), Inv X pins σ H s → Vals vs us → t vs σ H Q →
  wpAny (model X.prog X.w) X.A (assignInOrder ((assignEach ts X.env).map (·.2)) us) (fun _ s' => ∃ σ' H', Inv X pins σ' H' s' ∧ Q σ' H') X.xe s
abbrev TSet := V → V → V → Hp → (Hp → Prop) → Prop
def PSet (X : Cx) (t : TSet) : Prop :=
 ∀ (pins : List (Addr × Obj)) (s : Shared) (σ : St) (H : Hp) (o i v : V) (ov iv u : Value) (Q : Hp → Prop), Inv X pins σ H s → RelV o ov → RelV i iv → RelV v u → t o i v H Q →
  wpAny (model X.prog X.w) X.A (setItem ov iv u) (fun _ s' => ∃ H', Inv X pins σ H' s' ∧ Q H') X.xe s
abbrev TIp := V → V → Hp → VK → Prop
def PIp (X : Cx) (op : Operator) (t : TIp) : Prop :=
 ∀ (pins : List (Addr × Obj)) (s : Shared) (σ : St) (H : Hp) (x y : V) (v u : Value) (Q : VK), Inv X pins σ H s → RelV x v → RelV y u → t x y H Q →
  wpAny (model X.prog X.w) X.A (inplaceOp op v u) (EP X pins σ Q) X.xe s
section
variable {X : Cx} {pos : Pos}
def gName (i : Nat) : TG := fun v σ H Q => Q (σ.set i (some v)) H
theorem pg_name {i : Nat} {x : Str} (hN : X.N.Nodup) (hi : X.N[i]? = some x) (hx : Loc X.env.scope x) (hf : X.fn x = true ∨ X.env.scope.names.lookup x = some .local := by first | exact .inl rfl | exact .inr rfl | assumption) : PG X (.Name x pos) (gName i) := by
 intro pins s σ H v u Q I r h
 exact wpAny_assign_Name (store_ok I hN hi hx r (fun s' I' => ⟨_, H, I', h⟩) hf)
def gNil : TGs := fun vs σ H Q => vs = [] ∧ Q σ H
def gCons (t : TG) (u : TGs) : TGs := fun vs σ H Q => ∃ v r, vs = v :: r ∧ t v σ H fun σ' H' => u r σ' H' Q
theorem pgs_nil : PGs X [] gNil := by
 intro pins s σ H vs us Q I r h
 obtain ⟨e, h⟩ := h
 subst e
 cases r
 exact assignInOrder_nil ⟨σ, H, I, h⟩
theorem pgs_cons {e : Expr} {es : List Expr} {t : TG} {u : TGs} (h1 : PG X e t) (h2 : PGs X es u)
 (hs : (assignEach (e :: es) X.env).map (·.2) = assign e X.env :: (assignEach es X.env).map (·.2) := by rfl) : PGs X (e :: es) (gCons t u) := by
 intro pins s σ H vs us Q I r h
 obtain ⟨v, vr, e1, h⟩ := h
 subst e1
 cases r with
 | cons r rr =>
  rw [hs]
  refine assignInOrder_cons (thn (h1 pins s σ H _ _ _ I r h) fun _ s1 ⟨σ1, H1, I1, q1⟩ => ?_)
  exact h2 pins s1 σ1 H1 _ _ Q I1 rr q1
def gTup (K : PySem.W.Frag) (n : Nat) (t : TGs) : TG := fun v σ H Q => ∃ a xs, v = .ref a ∧ SqT K H a xs ∧ xs.length = n ∧ t xs σ H Q
theorem pg_tup {es : List Expr} {k : Nat} {t : TGs} {n : Nat} (hc : X.calm = true) (h : PGs X es t)
 (hn : (assignEach es X.env).length = n := by rfl) (hst : (assignEach es X.env).findIdx? (·.1) = none := by rfl) : PG X (.Tuple es k pos) (gTup X.K n t) := by
 intro pins s σ H v u Q I r hw
 obtain ⟨a, xs, e1, hq, hl, hw⟩ := hw
 subst e1
 cases r
 obtain ⟨its, rv, ht, hz⟩ := I.tuple hq
 refine assign_Tuple_tuple (I.ok.hd hc) ht (by simp [hn, ← hl, rv.length]) hst fun h' hx => ?_
 have I1 : Inv X pins σ H { s with heap := h' } := I.kept (t' := s.toks) fun b o e => hx b o (Nat.ne_of_lt (Heap.lt_size e)) e
 exact h pins _ σ H xs _ Q I1 (by simpa using rv) hw
def gSub (to ti : TE) (t : TSet) : TG := fun v σ H Q => to σ H fun o H1 => ti σ H1 fun i H2 => t o i v H2 fun H3 => Q σ H3
theorem pg_sub {o i : Expr} {to ti : TE} {t : TSet} (ho : PE X o to) (hi : PE X i ti) (hs : PSet X t)
 (ha : ∀ v, assign (.Subscript o i pos) X.env v = (do
  let ov ← holding [v] (eval o X.env)
  let iv ← holding [v, ov] (eval i X.env)
  standAt pos
  holding [v, ov, iv] (setItem ov iv v)
  release [v, ov, iv] []) := by intro _; rfl) : PG X (.Subscript o i pos) (gSub to ti t) := by
 intro pins s σ H v u Q I r h
 rw [ha]
 refine wpAny_bind (wpAny_holding (thn (ho pins s σ H _ I h) fun ov s1 ⟨x, H1, I1, r1, q1⟩ => ?_))
 refine wpAny_bind (wpAny_holding (thn (hi pins s1 σ H1 _ I1 q1) fun iv s2 ⟨y, H2, I2, r2, q2⟩ => ?_))
 refine wpAny_bind (wpAny_standAt (wpAny_bind (wpAny_holding (thn (hs pins s2 σ H2 x y v ov iv u _ I2 r1 r2 r q2) fun _ s3 ⟨H3, I3, q3⟩ => ?_))))
 exact wpAny_release ⟨σ, H3, I3, q3⟩
def tAsg (te : TE) (g : TG) : TS := fun D σ H => te σ H fun x H1 => g x σ H1 D.nx
theorem ps_asg {tg e : Expr} {te : TE} {g : TG} (he : PE X e te) (hg : PG X tg g) (hs : swapsWithSole [tg] e pos.line X.env = pure false := by rfl) (hw : swappedStores [tg] e X.env = pure none := by rfl)
 (h1 : (assignEach [tg] X.env).map (·.2) = [assign tg X.env] := by rfl) : PS X (.Assign [tg] e pos) (tAsg te g) := by
 intro pins s σ H D I h
 refine wpAny_Assign_stores (thn (he pins s σ H _ I h) fun v s1 ⟨x, H1, I1, r1, q1⟩ => ?_) hs hw
 rw [h1]
 exact thn (hg pins s1 σ H1 x v _ I1 r1 q1) fun _ s2 q => q
theorem ps_set {i : Nat} {x : Str} {e : Expr} {te : TE} {pos' : Pos} (hN : X.N.Nodup) (hi : X.N[i]? = some x) (hx : Loc X.env.scope x) (he : PE X e te) (hs : swapsWith e (some (.Name x pos')) pos.line X.env = pure false := by rfl) (hf : X.fn x = true ∨ X.env.scope.names.lookup x = some .local := by first | exact .inl rfl | exact .inr rfl | assumption) :
 PS X (.Assign [.Name x pos'] e pos) (tAsg te (gName i)) := by
 intro pins s σ H D I h
 refine wpAny_Assign_Name (thn (he pins s σ H _ I h) fun v s1 ⟨y, H1, I1, r1, q1⟩ => ?_) hs
 exact store_ok I1 hN hi hx r1 (fun s2 I2 => ⟨_, H1, I2, q1⟩) hf
def tAug (i : Nat) (te : TE) (ti : TIp) : TS := fun D σ H => ∃ x, σ[i]? = some (some x) ∧ te σ H fun y H1 => ti x y H1 fun z H2 => D.nx (σ.set i (some z)) H2
theorem ps_aug {i : Nat} {x : Str} {e : Expr} {te : TE} {op : Operator} {ti : TIp} {pos' : Pos} (hN : X.N.Nodup) (hi : X.N[i]? = some x) (hx : Loc X.env.scope x) (he : PE X e te) (ho : PIp X op ti) (hf : X.fn x = true ∨ X.env.scope.names.lookup x = some .local := by first | exact .inl rfl | exact .inr rfl | assumption) :
 PS X (.AugAssign (.Name x pos') op e pos) (tAug i te ti) := by
 intro pins s σ H D I h
 obtain ⟨v, e1, h⟩ := h
 obtain ⟨m, hn, hl⟩ := I.loc
 have vis : Vis X.env.scope x := by rcases hx with k | k; exact .inl k; exact .inr (.inl k)
 obtain ⟨u, r, l⟩ := hl i x v hi e1 vis
 refine wpAny_AugAssign_Name ?_
 have go : wpAny (model X.prog X.w) X.A (eval e X.env) (fun w s₂ => wpAny (model X.prog X.w) X.A (inplaceOp op u w) (fun r s₃ => wpAny (model X.prog X.w) X.A (storeName X.env x r) (fun _ => SP X pins D .next) X.xe s₃) X.xe s₂) X.xe s := by
  refine thn (he pins s σ H _ I h) fun w s1 ⟨y, H1, I1, r1, q1⟩ => ?_
  refine thn (ho pins s1 σ H1 v y u w _ I1 r r1 q1) fun z s2 ⟨zv, H2, I2, r2, q2⟩ => ?_
  exact store_ok I2 hN hi hx r2 (fun s3 I3 => ⟨_, H2, I3, q2⟩) hf
 rcases l with ⟨hk, hm⟩ | ⟨hk, c, hc, hcell⟩
 ·exact wpAny_loadName_local I.ok.kind hk hn hm go
 ·rcases hk with hk | hk
  ·exact wpAny_loadName_cell I.ok.kind hk hc hcell go
  ·rcases hx with k | k
   ·have : X.env.scope.names.lookup x = some .free := hk
    rw [k] at this; cases this
   ·have : X.env.scope.names.lookup x = some .free := hk
    rw [k] at this; cases this
def ipI (f : Int → Int → Int) : TIp := fun x y H Q => ∃ i j, x = .int i ∧ y = .int j ∧ Q (.int (f i j)) H
theorem ip_add : PIp X .Add (ipI fun i j => i + j) := by
 intro pins s σ H x y v u Q I r1 r2 h
 obtain ⟨i, j, e1, e2, q⟩ := h
 subst e1; subst e2
 obtain ⟨t, rfl⟩ := r1
 obtain ⟨t', rfl⟩ := r2
 exact iadd_int ⟨.int _, H, I.tok _, ⟨_, rfl⟩, q⟩
end
section
variable {X : Cx} {pos : Pos}
def tWhile (c : TT) (tb : TS) : TS := fun D σ H => ∃ W : Nat → St → Hp → Prop, (∃ m, W m σ H) ∧ ∀ m σ H, W m σ H →
 c σ H fun b H1 => if b = true then ∃ N : St → Hp → Prop, (∀ σ' H', N σ' H' → ∃ m', m' < m ∧ W m' σ' H') ∧ tb { D with nx := N, ct := N, bk := D.nx } σ H1 else D.nx σ H1
theorem ps_while {c : Expr} {body : List Stmt} {tc : TT} {tb : TS} (hp : PassesOwn (model X.prog X.w) X.A X.env X.xe) (hc : PT X c tc) (hb : PSs X body tb) : PS X (.While c body [] pos) (tWhile tc tb) := by
 intro pins s σ H D I h
 obtain ⟨W, ⟨m0, w0⟩, turn⟩ := h
 refine wpAny_While (codeAny_whileLoop (fun n s' => ∃ σ' H', Inv X pins σ' H' s' ∧ W n σ' H') ?_ m0 ⟨σ, H, I, w0⟩)
 rintro n s1 ⟨σ1, H1, I1, w1⟩
 refine wpAny_passesOwn hp (thn (hc pins s1 σ1 H1 _ I1 (turn n σ1 H1 w1)) fun b s2 ⟨H2, I2, q2⟩ => ?_)
 cases b with
 | true =>
  obtain ⟨N, hN, q2⟩ := q2
  rw [if_pos rfl]
  refine wpAny_passesOwn hp (thn (hb pins s2 σ1 H2 _ I2 q2) fun f s3 q3 => ?_)
  cases f with
  | next =>
   obtain ⟨σ3, H3, I3, n3⟩ := q3
   obtain ⟨m', hm, w3⟩ := hN σ3 H3 n3
   exact ⟨m', hm, σ3, H3, I3, w3⟩
  | cont =>
   obtain ⟨σ3, H3, I3, n3⟩ := q3
   obtain ⟨m', hm, w3⟩ := hN σ3 H3 n3
   exact ⟨m', hm, σ3, H3, I3, w3⟩
  | brk => exact q3
  | ret v => exact q3
 | false =>
  rw [if_neg Bool.false_ne_true]
  exact wpAny_execs_nil ⟨σ1, H2, I2, q2⟩
end
structure It where
 go : Nat → Hp → Prop
 yld : Nat → Hp → V → Hp → Prop
 stop : Nat → Hp → Prop
def FpOk (X : Cx) (pins : List (Addr × Obj)) (H : Hp) (b : Addr) : Prop :=
 H b = none ∧ b ≠ X.env.locals ∧ b ∉ X.fs ∧ (b ∈ X.ex ∨ X.s₀.heap.objs.size ≤ b) ∧ (∀ x c, X.env.cells.lookup x = some c → c ≠ b) ∧ ∀ p ∈ X.pn ++ pins, p.1 ≠ b
theorem Inv.fpOk {X : Cx} {pins : List (Addr × Obj)} {σ : St} {H H' : Hp} {s : Shared} {b : Addr} (I : Inv X pins σ H s) (hb : s.heap.objs.size ≤ b) (hn : H' b = none) : FpOk X pins H' b := by
 refine ⟨hn, Nat.ne_of_gt (Nat.lt_of_lt_of_le I.lt hb), I.nofs hb, .inr (Nat.le_trans I.sz hb), fun x c e z => ?_, fun p hp z => ?_⟩
 ·obtain ⟨v, q⟩ := I.cell x c e
  exact absurd (Nat.lt_of_lt_of_le q.lt (by rw [z]; exact hb)) (Nat.lt_irrefl _)
 ·exact absurd (Nat.lt_of_lt_of_le (Heap.lt_size (I.pin p hp).1) (by rw [z]; exact hb)) (Nat.lt_irrefl _)
structure Turn (P : Program) (w : World) (K : PySem.W.Frag) (tg : Expr) (J : It) (fp : List Addr) (it : Addr) (tn : Nat → Heap → Prop) : Prop where
 mem : it ∈ fp
 obj : ∀ i h, tn i h → ∀ b ∈ fp, ∃ o, h.get? b = some o ∧ ∀ v, o.data ≠ .cell v
 keep : ∀ i h h', tn i h → (∀ b ∈ fp, ∀ o, h.get? b = some o → h'.get? b = some o) → tn i h'
 item : ∀ (X : Cx), X.prog = P → X.w = w → X.K = K → X.calm = true → ∀ (i : Nat) (pins : List (Addr × Obj)) (s : Shared) (σ : St) (H : Hp) (E : Value → Shared → Prop), Inv X pins σ H s → (∀ b ∈ fp, FpOk X pins H b) → tn i s.heap → J.go i H →
  wpAny (model P w) X.A (pyNext (.ref it)) (fun r s1 => ∃ u, r = some u ∧
   wpAny (model P w) X.A (letOwnedTupleGo tg (.ref it) u) (fun _ s2 => ∃ x H', Inv X pins σ H' s2 ∧ RelV x u ∧ J.yld i H x H' ∧ tn (i + 1) s2.heap ∧ ∀ b ∈ fp, H' b = none) E s1) E s
 done : ∀ (X : Cx), X.prog = P → X.w = w → X.K = K → X.calm = true → ∀ (i : Nat) (pins : List (Addr × Obj)) (s : Shared) (σ : St) (H : Hp) (E : Value → Shared → Prop), Inv X pins σ H s → (∀ b ∈ fp, FpOk X pins H b) → tn i s.heap → J.stop i H →
  wpAny (model P w) X.A (pyNext (.ref it)) (fun r s1 => r = none ∧ Inv X pins σ H s1) E s
 self : ∀ (A : Around) (i : Nat) (s : Shared) (Q : Value → Shared → Prop) (E : Value → Shared → Prop), tn i s.heap → Q (.ref it) s → wpAny (model P w) A (pyIter (.ref it)) Q E s
abbrev TI := St → Hp → (It → Hp → Prop) → Prop
def PIE (X : Cx) (pins : List (Addr × Obj)) (σ : St) (tg : Expr) (R : It → Hp → Prop) (itv : Value) (s2 : Shared) : Prop :=
 ∃ (it : Addr) (fp : List Addr) (tn : Nat → Heap → Prop) (J : It) (H' : Hp), itv = .ref it ∧ Inv X pins σ H' s2 ∧ Turn X.prog X.w X.K tg J fp it tn ∧ tn 0 s2.heap ∧ (∀ b ∈ fp, FpOk X pins H' b) ∧ R J H'
def PI (X : Cx) (tg iter : Expr) (wi : TI) : Prop :=
 ∀ (pins : List (Addr × Obj)) (s : Shared) (σ : St) (H : Hp) (R : It → Hp → Prop), Inv X pins σ H s → wi σ H R →
  wpAny (model X.prog X.w) X.A (eval iter X.env) (fun v s1 => wpAny (model X.prog X.w) X.A (pyIter v) (PIE X pins σ tg R) X.xe s1) X.xe s
theorem go_of {M : Model} {A : Around} {E : Value → Shared → Prop} {s : Shared} {tg : Expr} {it : Addr} {u : Value} {o : Obj} {n : String} {vs : Array Value} {Q : Unit → Shared → Prop} (ho : s.heap.get? it = some o) (hc : o.cls = .type n) (hd : o.data = .fields vs)
 (hn : ["enumerate", "zip", "dict_itemiterator", "dict_reverseitemiterator", "odict_iterator", "itertools.zip_longest", "itertools.pairwise"].contains n = false) (hQ : Q () s) : wpAny M A (letOwnedTupleGo tg (.ref it) u) Q E s := by
 unfold letOwnedTupleGo
 cases tg <;> first
  | exact wpAny_pure hQ
  | (cases u <;> first
   | exact wpAny_pure hQ
   | (refine wpAny_bind (wpAny_load ho ?_)
      rw [hc, hd]
      show wpAny M A (if (["enumerate", "zip", "dict_itemiterator", "dict_reverseitemiterator", "odict_iterator", "itertools.zip_longest", "itertools.pairwise"].contains n && vs[0]? == some (rawInt _)) = true then _ else _) Q E s
      rw [if_neg (by intro h; rw [hn, Bool.false_and] at h; cases h)]
      exact wpAny_pure hQ))
def Itl (K : PySem.W.Frag) (a : Addr) : It :=
 ⟨fun i H => ∃ xs x, SqL K H a xs ∧ xs[i]? = some x, fun i H x H' => H' = H ∧ ∀ xs, SqL K H a xs → xs[i]? = some x, fun i H => ∃ xs, SqL K H a xs ∧ xs.length ≤ i⟩
def Itt (K : PySem.W.Frag) (a : Addr) : It :=
 ⟨fun i H => ∃ xs x, SqT K H a xs ∧ xs[i]? = some x, fun i H x H' => H' = H ∧ ∀ xs, SqT K H a xs → xs[i]? = some x, fun i H => ∃ xs, SqT K H a xs ∧ xs.length ≤ i⟩
def Itr (lo : Int) (n : Nat) : It := ⟨fun i _ => i < n, fun i H x H' => H' = H ∧ x = .int (lo + i), fun i _ => n ≤ i⟩
theorem turn_list {P : Program} {w : World} {K : PySem.W.Frag} {tg : Expr} (a it : Addr) : Turn P w K tg (Itl K a) [it] it (fun i h => h.IsListIter it a i) where
 mem := by simp
 obj := fun i h st b hb => by
  have e : b = it := by simpa using hb
  subst e
  obtain ⟨o, e, c, d⟩ := st
  exact ⟨o, e, fun v z => by rw [d] at z; cases z⟩
 keep := fun i h h' st k => st.at fun o e => k it (by simp) o e
 item := by
  intro X hP hw hK hc i pins s σ H E I hf st hg
  subst hP hw hK
  obtain ⟨xs, x, hq, hx⟩ := hg
  obtain ⟨its, rv, p, hz⟩ := I.list hq
  obtain ⟨u, hu, ru⟩ := rv.get hx
  obtain ⟨f0, f1, f2, f3, f4, f5⟩ := hf it (by simp)
  refine wpAny_pyNext_list_item st p.isList (x := u) (by simpa using hu) fun h' st' sb => ?_
  have I1 : Inv X pins σ H { s with heap := h' } := I.turned (t' := s.toks) (fun b o hb e => (sb.2 b hb).trans e) f0 f1 f3 f4 f5
  obtain ⟨o, e, c, d⟩ := id st'
  exact ⟨u, rfl, go_of (s := { s with heap := h' }) e c d (by decide) ⟨x, H, I1, ru, ⟨rfl, fun ys hy => by rw [I.list_inj hy hq]; exact hx⟩, st', fun b hb => (hf b hb).1⟩⟩
 done := by
  intro X hP hw hK hc i pins s σ H E I hf st hg
  subst hP hw hK
  obtain ⟨xs, hq, hx⟩ := hg
  obtain ⟨its, rv, p, hz⟩ := I.list hq
  obtain ⟨f0, f1, f2, f3, f4, f5⟩ := hf it (by simp)
  have hl := rv.length
  exact wpAny_pyNext_list_end (I.ok.hd hc) st p.isList (by simp; omega) fun h' eb => ⟨rfl, I.turned (t' := s.toks) (fun b o hb e => eb b o hb e) f0 f1 f3 f4 f5⟩
 self := fun _ _ _ _ _ st h => wpAny_pyIter_listiter st h
theorem turn_tuple {P : Program} {w : World} {K : PySem.W.Frag} {tg : Expr} (a it : Addr) : Turn P w K tg (Itt K a) [it] it (fun i h => h.IsTupleIter it a i) where
 mem := by simp
 obj := fun i h st b hb => by
  have e : b = it := by simpa using hb
  subst e
  obtain ⟨o, e, c, d⟩ := st
  exact ⟨o, e, fun v z => by rw [d] at z; cases z⟩
 keep := fun i h h' st k => st.at fun o e => k it (by simp) o e
 item := by
  intro X hP hw hK hc i pins s σ H E I hf st hg
  subst hP hw hK
  obtain ⟨xs, x, hq, hx⟩ := hg
  obtain ⟨its, rv, p, hz⟩ := I.tuple hq
  obtain ⟨u, hu, ru⟩ := rv.get hx
  obtain ⟨f0, f1, f2, f3, f4, f5⟩ := hf it (by simp)
  refine wpAny_pyNext_tuple_item st (show s.heap.IsTuple a its.toArray from p) (x := u) (by simpa using hu) fun h' st' sb => ?_
  have I1 : Inv X pins σ H { s with heap := h' } := I.turned (t' := s.toks) (fun b o hb e => (sb.2 b hb).trans e) f0 f1 f3 f4 f5
  obtain ⟨o, e, c, d⟩ := id st'
  exact ⟨u, rfl, go_of (s := { s with heap := h' }) e c d (by decide) ⟨x, H, I1, ru, ⟨rfl, fun ys hy => by rw [I.tuple_inj hy hq]; exact hx⟩, st', fun b hb => (hf b hb).1⟩⟩
 done := by
  intro X hP hw hK hc i pins s σ H E I hf st hg
  subst hP hw hK
  obtain ⟨xs, hq, hx⟩ := hg
  obtain ⟨its, rv, p, hz⟩ := I.tuple hq
  obtain ⟨f0, f1, f2, f3, f4, f5⟩ := hf it (by simp)
  have hl := rv.length
  exact wpAny_pyNext_tuple_end (I.ok.hd hc) st (show s.heap.IsTuple a its.toArray from p) (by simp; omega) fun h' eb => ⟨rfl, I.turned (t' := s.toks) (fun b o hb e => eb b o hb e) f0 f1 f3 f4 f5⟩
 self := fun _ _ _ _ _ st h => wpAny_pyIter_tupleiter st h
theorem turn_range {P : Program} {w : World} {K : PySem.W.Frag} {tg : Expr} (it : Addr) (lo : Int) (n : Nat) : Turn P w K tg (Itr lo n) [it] it (fun i h => IsRangeIter h it (lo + (i : Nat) * 1) ((n : Int) - (i : Nat)) 1) where
 mem := by simp
 obj := fun i h st b hb => by
  have e : b = it := by simpa using hb
  subst e
  exact ⟨_, st, fun v z => by
   have z' : Data.fields _ = Data.cell v := z
   cases z'⟩
 keep := fun i h h' st k => k it (by simp) _ st
 item := by
  intro X hP hw hK hc i pins s σ H E I hf st hg
  subst hP hw hK
  obtain ⟨f0, f1, f2, f3, f4, f5⟩ := hf it (by simp)
  have W := Walks.range (prog := X.prog) (w := X.w) (I.ok.hd hc) it lo 1 n
  refine W.item i s _ _ hg st fun v h' tk hv st' kk => ?_
  obtain ⟨t, rfl⟩ := hv
  have I1 : Inv X pins σ H { s with heap := h', toks := tk } := I.turned (fun b o hb e => kk b o (by simpa using hb) e) f0 f1 f3 f4 f5
  refine ⟨_, rfl, go_of (s := { s with heap := h', toks := tk }) (n := "range_iterator") st' rfl rfl (by decide) ⟨.int (lo + i), H, I1, ⟨t, ?_⟩, ⟨rfl, rfl⟩, st', fun b hb => (hf b hb).1⟩⟩
  rw [Int.mul_one]
 done := by
  intro X hP hw hK hc i pins s σ H E I hf st hg
  subst hP hw hK
  obtain ⟨f0, f1, f2, f3, f4, f5⟩ := hf it (by simp)
  exact wpAny_pyNext_range_end (I.ok.hd hc) st (by have : n ≤ i := hg; omega) fun h' eb => ⟨rfl, I.turned (t' := s.toks) (fun b o hb e => eb b o hb e) f0 f1 f3 f4 f5⟩
 self := fun _ _ _ _ _ st h => wpAny_pyIter_rangeiter st h
end L2
namespace L2
open PySem PySem.Spec PyProof.Rows
section
variable {X : Cx} {tg : Expr}
def iList (K : PySem.W.Frag) (tl : TE) : TI := fun σ H R => tl σ H fun x H1 => ∃ a, x = .ref a ∧ (∃ xs, SqL K H1 a xs) ∧ R (Itl K a) H1
def iTup (K : PySem.W.Frag) (tl : TE) : TI := fun σ H R => tl σ H fun x H1 => ∃ a, x = .ref a ∧ (∃ xs, SqT K H1 a xs) ∧ R (Itt K a) H1
theorem pi_list {l : Expr} {tl : TE} (hl : PE X l tl) : PI X tg l (iList X.K tl) := by
 intro pins s σ H R I h
 refine thn (hl pins s σ H _ I h) fun v s1 ⟨x, H1, I1, r1, q1⟩ => ?_
 obtain ⟨a, e, ⟨xs, hq⟩, q⟩ := q1
 subst e
 cases r1
 obtain ⟨its, rv, p, hz⟩ := I1.list hq
 refine wpAny_pyIter_list p.isList ?_
 refine ⟨s1.heap.objs.size, [s1.heap.objs.size], _, _, H1, rfl, I1.kept (t' := s1.toks) fun b o e => Heap.get?_push_of_some _ e, turn_list a _, ⟨_, Heap.get?_push_size _ rfl, rfl, rfl⟩, fun b hb => ?_, q⟩
 have e : b = s1.heap.objs.size := by simpa using hb
 subst e
 exact I1.fpOk (Nat.le_refl _) (I1.hok.fresh (Nat.le_refl _))
theorem pi_tup {l : Expr} {tl : TE} (hl : PE X l tl) : PI X tg l (iTup X.K tl) := by
 intro pins s σ H R I h
 refine thn (hl pins s σ H _ I h) fun v s1 ⟨x, H1, I1, r1, q1⟩ => ?_
 obtain ⟨a, e, ⟨xs, hq⟩, q⟩ := q1
 subst e
 cases r1
 obtain ⟨its, rv, p, hz⟩ := I1.tuple hq
 refine wpAny_pyIter_tuple (show s1.heap.IsTuple a its.toArray from p) ?_
 refine ⟨s1.heap.objs.size, [s1.heap.objs.size], _, _, H1, rfl, I1.kept (t' := s1.toks) fun b o e => Heap.get?_push_of_some _ e, turn_tuple a _, ⟨_, Heap.get?_push_size _ rfl, rfl, rfl⟩, fun b hb => ?_, q⟩
 have e : b = s1.heap.objs.size := by simpa using hb
 subst e
 exact I1.fpOk (Nat.le_refl _) (I1.hok.fresh (Nat.le_refl _))
theorem range_it {pins : List (Addr × Obj)} {σ : St} {H : Hp} {s : Shared} {R : It → Hp → Prop} {E : Value → Shared → Prop} {lo hi : Int} {t u v : Tok} {tk : Nat} (I : Inv X pins σ H s) (h1 : -(2 ^ 62) ≤ lo) (h2 : lo < 2 ^ 62) (h3 : -(2 ^ 62) ≤ hi) (h4 : hi < 2 ^ 62)
 (q : R (Itr lo (hi - lo).toNat) H) : wpAny (model X.prog X.w) X.A (pyIter (.ref s.heap.objs.size)) (PIE X pins σ tg R) E { s with heap := s.heap.push { cls := .type "range", data := .fields #[.int lo t, .int hi u, .int 1 v] }, toks := tk } := by
 refine wpAny_pyIter_range (IsRange.new ..) (small_one h1 h2 h3 h4) ?_
 have I1 : Inv X pins σ H { s with heap := s.heap.push { cls := .type "range", data := .fields #[.int lo t, .int hi u, .int 1 v] }, toks := tk } := I.kept fun b o e => Heap.get?_push_of_some _ e
 refine ⟨(s.heap.push { cls := .type "range", data := .fields #[.int lo t, .int hi u, .int 1 v] }).objs.size, [(s.heap.push { cls := .type "range", data := .fields #[.int lo t, .int hi u, .int 1 v] }).objs.size], _, _, H, rfl,
  I1.kept (t' := tk) fun b o e => Heap.get?_push_of_some _ e, turn_range _ lo (hi - lo).toNat, ?_, fun b hb => ?_, q⟩
 ·have e1 : lo + ((0 : Nat) : Int) * 1 = lo := by simp
  have e2 : (((hi - lo).toNat : Nat) : Int) - ((0 : Nat) : Int) = Builtin.Range.rangeSize lo hi 1 := by rw [rangeSize_one]; split <;> omega
  show IsRangeIter _ _ (lo + ((0 : Nat) : Int) * 1) ((((hi - lo).toNat : Nat) : Int) - ((0 : Nat) : Int)) 1
  rw [e1, e2]
  exact Heap.get?_push_size _ rfl
 ·have e : b = (s.heap.push { cls := .type "range", data := .fields #[.int lo t, .int hi u, .int 1 v] }).objs.size := by simpa using hb
  subst e
  exact I1.fpOk (Nat.le_refl _) (I1.hok.fresh (Nat.le_refl _))
def iRng1 (ta : TA) : TI := fun σ H R => ta σ H fun vs H1 => ∃ j : Int, vs = [.int j] ∧ -(2 ^ 62) ≤ j ∧ j < 2 ^ 62 ∧ R (Itr 0 j.toNat) H1
def iRng2 (ta : TA) : TI := fun σ H R => ta σ H fun vs H1 => ∃ i j : Int, vs = [.int i, .int j] ∧ (-(2 ^ 62) ≤ i ∧ i < 2 ^ 62 ∧ -(2 ^ 62) ≤ j ∧ j < 2 ^ 62) ∧ R (Itr i (j - i).toNat) H1
theorem pi_range1 {a : Expr} {ta : TA} {p pos : Pos} (hg : Gl X "range") (hm : X.mg "range" = none) (ha : PA X [a] ta) (hs : starEach [a] X.env = [(false, eval a X.env)] := by rfl) : PI X tg (.Call (.Name "range" p) [a] [] pos) (iRng1 ta) := by
 intro pins s σ H R I h
 refine Call_ (ld_blt I hg hm boot_range (PyProof.Rows.callWith_type1 (thn (ha pos pins s σ H _ I h) fun us s1 ⟨vs, H1, I1, r1, q1⟩ => ?_) hs rfl))
 obtain ⟨j, e, q1, q2, q⟩ := q1
 subst e
 cases r1 with
 | cons r rr =>
  cases rr
  obtain ⟨t, rfl⟩ := r
  exact call_range_1 (range_it I1 (by omega) (by omega) q1 q2 (by simpa using q))
theorem pi_range2 {a b : Expr} {ta : TA} {p pos : Pos} (hg : Gl X "range") (hm : X.mg "range" = none) (ha : PA X [a, b] ta) (hs : starEach [a, b] X.env = [(false, eval a X.env), (false, eval b X.env)] := by rfl) (hs2 : starEach [b] X.env = [(false, eval b X.env)] := by rfl) :
 PI X tg (.Call (.Name "range" p) [a, b] [] pos) (iRng2 ta) := by
 intro pins s σ H R I h
 refine Call_ (ld_blt I hg hm boot_range (PyProof.Rows.callWith_type1 (thn (ha pos pins s σ H _ I h) fun us s1 ⟨vs, H1, I1, r1, q1⟩ => ?_) (by rw [hs, hs2]) (by rw [hs2]; rfl)))
 obtain ⟨i, j, e, ⟨q1, q2, q3, q4⟩, q⟩ := q1
 subst e
 cases r1 with
 | cons r rr =>
  cases rr with
  | cons r' rr =>
   cases rr
   obtain ⟨t, rfl⟩ := r
   obtain ⟨t', rfl⟩ := r'
   exact call_range_2 (range_it I1 q1 q2 q3 q4 q)
def tFor (wi : TI) (g : TG) (tb : TS) : TS := fun D σ H => wi σ H fun J H1 => ∃ W : Nat → Nat → St → Hp → Prop, (∃ m, W 0 m σ H1) ∧ ∀ i m σ H, W i m σ H →
 (J.stop i H ∧ D.nx σ H) ∨ (J.go i H ∧ ∃ N : St → Hp → Prop, (∀ σ' H', N σ' H' → ∃ m', m' < m ∧ W (i + 1) m' σ' H') ∧ ∀ x H', J.yld i H x H' → g x σ H' fun σ2 H2 => tb { D with nx := N, ct := N, bk := D.nx } σ2 H2)
def pinsAt (fp : List Addr) (h : Heap) : List (Addr × Obj) := fp.filterMap fun b => (h.get? b).map fun o => (b, o)
theorem mem_pinsAt {fp : List Addr} {h : Heap} {b : Addr} {o : Obj} (hb : b ∈ fp) (e : h.get? b = some o) : (b, o) ∈ pinsAt fp h := List.mem_filterMap.mpr ⟨b, hb, by rw [e]; rfl⟩
theorem of_pinsAt {fp : List Addr} {h : Heap} {p : Addr × Obj} (hp : p ∈ pinsAt fp h) : p.1 ∈ fp ∧ h.get? p.1 = some p.2 := by
 obtain ⟨b, hb, e⟩ := List.mem_filterMap.mp hp
 cases q : h.get? b with
 | none => rw [q] at e; cases e
 | some o =>
  rw [q] at e
  have e' : (b, o) = p := Option.some.inj e
  subst e'
  exact ⟨hb, q⟩
theorem Inv.pinned {pins : List (Addr × Obj)} {σ : St} {H : Hp} {s : Shared} {fp : List Addr} (I : Inv X pins σ H s) (hf : ∀ b ∈ fp, FpOk X pins H b) (ho : ∀ b ∈ fp, ∃ o, s.heap.get? b = some o ∧ ∀ v, o.data ≠ .cell v) : Inv X (pins ++ pinsAt fp s.heap) σ H s :=
 I.pins_of fun p hp => (List.mem_append.mp hp).elim (fun z => I.pin p (List.mem_append_right _ z)) fun z => by
  obtain ⟨hb, e⟩ := of_pinsAt z
  obtain ⟨f0, f1, f2, _⟩ := hf p.1 hb
  obtain ⟨o, e', d⟩ := ho p.1 hb
  rw [e] at e'; cases e'
  exact ⟨e, f0, f1, f2, d⟩
theorem Inv.unpinned {pins pl : List (Addr × Obj)} {σ : St} {H : Hp} {s : Shared} (I : Inv X (pins ++ pl) σ H s) : Inv X pins σ H s := I.pins_of fun p hp => I.pin p (List.mem_append_right _ (List.mem_append_left _ hp))
theorem ps_for {iter : Expr} {body : List Stmt} {wi : TI} {g : TG} {tb : TS} {pos : Pos} (hp : PassesOwn (model X.prog X.w) X.A X.env X.xe) (hc : X.calm = true) (hi : PI X tg iter wi) (hg : PG X tg g) (hb : PSs X body tb)
 (hs : ∀ x, foldedSetIterable iter X.env x = pure x := by intro _; rfl) : PS X (.For tg iter body [] pos) (tFor wi g tb) := by
 intro pins s σ H D I h
 refine wpAny_For (thn (hi pins s σ H _ I h) fun v s1 h1 => thn h1 fun itv s2 h2 => ?_) hs
 obtain ⟨it, fp, tn, J, H2, e, I2, T, st2, f2, W, ⟨m0, w0⟩, turn⟩ := h2
 subst e
 have stat : ∀ {H' : Hp}, (∀ b ∈ fp, H' b = none) → ∀ b ∈ fp, FpOk X pins H' b := fun hn b hb => ⟨hn b hb, (f2 b hb).2⟩
 refine codeAny_forLoop_any (fun n s' => ∃ i σ' H', Inv X pins σ' H' s' ∧ tn i s'.heap ∧ (∀ b ∈ fp, H' b = none) ∧ W i n σ' H') ?_ m0 ⟨0, σ, H2, I2, st2, fun b hb => (f2 b hb).1, w0⟩
 rintro n s3 ⟨i, σ3, H3, I3, st3, fr3, w3⟩
 rcases turn i n σ3 H3 w3 with ⟨stop, qn⟩ | ⟨go, N, hN, step⟩
 ·refine wpAny_passesOwn hp (thn (T.done X rfl rfl rfl hc i pins s3 σ3 H3 X.xe I3 (stat fr3) st3 stop) fun r s4 ⟨hr, I4⟩ => ?_)
  subst hr
  exact wpAny_execs_nil ⟨σ3, H3, I4, qn⟩
 ·refine wpAny_passesOwn hp (thn (T.item X rfl rfl rfl hc i pins s3 σ3 H3 X.xe I3 (stat fr3) st3 go) fun r s4 ⟨u, hr, h4⟩ => ?_)
  subst hr
  refine wpAny_passesOwn hp (thn h4 fun _ s5 ⟨x, H5, I5, r5, y5, st5, fr5⟩ => ?_)
  have I5' := I5.pinned (stat fr5) (T.obj _ _ st5)
  refine wpAny_passesOwn hp (thn (hg _ s5 σ3 H5 x u _ I5' r5 (step x H5 y5)) fun _ s6 ⟨σ6, H6, I6, q6⟩ => ?_)
  refine wpAny_passesOwn hp (thn (hb _ s6 σ6 H6 _ I6 q6) fun f s7 q7 => ?_)
  have again : ∀ {σ7 : St} {H7 : Hp}, Inv X (pins ++ pinsAt fp s5.heap) σ7 H7 s7 → N σ7 H7 → ∃ m, m < n ∧ ∃ i σ' H', Inv X pins σ' H' s7 ∧ tn i s7.heap ∧ (∀ b ∈ fp, H' b = none) ∧ W i m σ' H' := fun {σ7 H7} I7 n7 => by
   obtain ⟨m', hm, w7⟩ := hN σ7 H7 n7
   refine ⟨m', hm, i + 1, σ7, H7, I7.unpinned, T.keep _ _ _ st5 fun b hb o e => (I7.pin (b, o) (List.mem_append_right _ (List.mem_append_right _ (mem_pinsAt hb e)))).1, fun b hb => ?_, w7⟩
   obtain ⟨o, e, d⟩ := T.obj _ _ st5 b hb
   exact (I7.pin (b, o) (List.mem_append_right _ (List.mem_append_right _ (mem_pinsAt hb e)))).2.1
  cases f with
  | next => obtain ⟨σ7, H7, I7, n7⟩ := q7; exact again I7 n7
  | cont => obtain ⟨σ7, H7, I7, n7⟩ := q7; exact again I7 n7
  | brk => obtain ⟨σ7, H7, I7, q7⟩ := q7; exact ⟨σ7, H7, I7.unpinned, q7⟩
  | ret v => obtain ⟨x7, σ7, H7, I7, r7, q7⟩ := q7; exact ⟨x7, σ7, H7, I7.unpinned, r7, q7⟩
end
end L2
namespace L2
open PySem PySem.Spec PyProof.Rows
abbrev R2 := V → V → Hp → VK → Prop
def OpR (X : Cx) (f : Value → Value → Sem Value) (r : R2) : Prop :=
 ∀ (pins : List (Addr × Obj)) (s : Shared) (σ : St) (H : Hp) (x y : V) (v u : Value) (Q : VK), Inv X pins σ H s → RelV x v → RelV y u → r x y H Q →
  wpAny (model X.prog X.w) X.A (f v u) (EP X pins σ Q) X.xe s
def UnR (X : Cx) (f : Value → Sem Value) (r : V → Hp → VK → Prop) : Prop :=
 ∀ (pins : List (Addr × Obj)) (s : Shared) (σ : St) (H : Hp) (x : V) (v : Value) (Q : VK), Inv X pins σ H s → RelV x v → r x H Q →
  wpAny (model X.prog X.w) X.A (f v) (EP X pins σ Q) X.xe s
def CallR (X : Cx) (f : Value) (r : List V → Hp → VK → Prop) : Prop :=
 ∀ (pins : List (Addr × Obj)) (s : Shared) (σ : St) (H : Hp) (xs : List V) (us : List Value) (Q : VK), Inv X pins σ H s → Vals xs us → r xs H Q →
  wpAny (model X.prog X.w) X.A (call f us) (EP X pins σ Q) X.xe s
def tOp (r : R2) (ta tb : TE) : TE := fun σ H Q => ta σ H fun x H1 => tb σ H1 fun y H2 => r x y H2 Q
def tUn (r : V → Hp → VK → Prop) (ta : TE) : TE := fun σ H Q => ta σ H fun x H1 => r x H1 Q
def rI (C : Int → Int → Prop) (g : Int → Int → V) : R2 := fun x y H Q => ∃ i j, x = .int i ∧ y = .int j ∧ C i j ∧ Q (g i j) H
def rI0 (g : Int → Int → V) : R2 := fun x y H Q => ∃ i j, x = .int i ∧ y = .int j ∧ Q (g i j) H
def rU (g : Int → V) : V → Hp → VK → Prop := fun x H Q => ∃ i, x = .int i ∧ Q (g i) H
section
variable {X : Cx} {a b c : Expr} {ta tb tc : TE} {pos : Pos}
theorem binT (ha : PE X a ta) (hb : PE X b tb) {pins : List (Addr × Obj)} {s : Shared} {σ : St} {H : Hp} {R : V → V → Hp → Prop} (I : Inv X pins σ H s)
 (h : ta σ H fun x H1 => tb σ H1 fun y H2 => R x y H2) {Q : Value → Shared → Prop} {f : Value → Value → Sem Value}
 (hf : ∀ v u s2 x y H2, Inv X pins σ H2 s2 → RelV x v → RelV y u → R x y H2 → wpAny (model X.prog X.w) X.A (f v u) Q X.xe s2) :
 wpAny (model X.prog X.w) X.A (eval a X.env) (fun v s₁ => wpAny (model X.prog X.w) X.A (eval b X.env) (fun u s₂ => wpAny (model X.prog X.w) X.A (f v u) Q X.xe s₂) X.xe s₁) X.xe s := by
 refine thn (ha pins s σ H _ I h) fun v s1 ⟨x, H1, I1, r1, q1⟩ => ?_
 refine thn (hb pins s1 σ H1 _ I1 q1) fun u s2 ⟨y, H2, I2, r2, q2⟩ => ?_
 exact hf v u s2 x y H2 I2 r1 r2 q2
theorem pe_op {op : Operator} {r : R2} (ho : OpR X (binaryOp op) r) (ha : PE X a ta) (hb : PE X b tb) : PE X (.BinOp a op b pos) (tOp r ta tb) := by
 intro pins s σ H Q I h
 exact wpAny_BinOp (binT ha hb I h fun v u s2 x y H2 I2 rx ry q => ho pins s2 σ H2 x y v u Q I2 rx ry q)
theorem pe_un {op : UnaryOp} {r : V → Hp → VK → Prop} (ho : UnR X (unaryOp op) r) (ha : PE X a ta) : PE X (.UnaryOp op a pos) (tUn r ta) := by
 intro pins s σ H Q I h
 exact UnaryOp_ (thn (ha pins s σ H _ I h) fun v s1 ⟨x, H1, I1, r1, q1⟩ => ho pins s1 σ H1 x v Q I1 r1 q1)
theorem opI {f : Value → Value → Sem Value} {C : Int → Int → Prop} {g : Int → Int → Int}
 (rule : ∀ (i j : Int) (t u : Tok) (s : Shared) (Q : Value → Shared → Prop) (E : Value → Shared → Prop), C i j → Q (.int (g i j) s.toks) { s with toks := s.toks + 1 } → wpAny (model X.prog X.w) X.A (f (.int i t) (.int j u)) Q E s) :
 OpR X f (rI C fun i j => .int (g i j)) := by
 intro pins s σ H x y v u Q I rx ry h
 obtain ⟨i, j, rfl, rfl, hc, q⟩ := h
 obtain ⟨t, rfl⟩ := rx
 obtain ⟨t', rfl⟩ := ry
 exact rule i j t t' s _ _ hc ⟨.int (g i j), H, I.tok _, ⟨_, rfl⟩, q⟩
theorem opI0 {f : Value → Value → Sem Value} {g : Int → Int → Int}
 (rule : ∀ (i j : Int) (t u : Tok) (s : Shared) (Q : Value → Shared → Prop) (E : Value → Shared → Prop), Q (.int (g i j) s.toks) { s with toks := s.toks + 1 } → wpAny (model X.prog X.w) X.A (f (.int i t) (.int j u)) Q E s) :
 OpR X f (rI0 fun i j => .int (g i j)) := by
 intro pins s σ H x y v u Q I rx ry h
 obtain ⟨i, j, rfl, rfl, q⟩ := h
 obtain ⟨t, rfl⟩ := rx
 obtain ⟨t', rfl⟩ := ry
 exact rule i j t t' s _ _ ⟨.int (g i j), H, I.tok _, ⟨_, rfl⟩, q⟩
theorem opB0 {f : Value → Value → Sem Value} {g : Int → Int → Bool}
 (rule : ∀ (i j : Int) (t u : Tok) (s : Shared) (Q : Value → Shared → Prop) (E : Value → Shared → Prop), Q (.bool (g i j)) s → wpAny (model X.prog X.w) X.A (f (.int i t) (.int j u)) Q E s) :
 OpR X f (rI0 fun i j => .bl (g i j)) := by
 intro pins s σ H x y v u Q I rx ry h
 obtain ⟨i, j, rfl, rfl, q⟩ := h
 obtain ⟨t, rfl⟩ := rx
 obtain ⟨t', rfl⟩ := ry
 exact rule i j t t' s _ _ ⟨.bl (g i j), H, I, rfl, q⟩
def CDiv (i j : Int) : Prop := 0 < j ∧ j < 1073741824
def CMul (i j : Int) : Prop := (-(2 ^ 64) < i ∧ i < 2 ^ 64) ∨ (-(2 ^ 64) < j ∧ j < 2 ^ 64)
theorem CMul.ok {i j : Int} (h : CMul i j) : IntMulOk i j := by
 rcases h with ⟨h1, h2⟩ | ⟨h1, h2⟩
 ·exact .of_left (intBits_le_64 h1 h2)
 ·exact .of_right (intBits_le_64 h1 h2)
theorem op_add : OpR X (binaryOp .Add) (rI0 fun i j => .int (i + j)) := opI0 fun _ _ _ _ _ _ _ q => add_int q
theorem op_sub : OpR X (binaryOp .Sub) (rI0 fun i j => .int (i - j)) := opI0 fun _ _ _ _ _ _ _ q => sub_int q
theorem op_mul : OpR X (binaryOp .Mult) (rI CMul fun i j => .int (i * j)) := opI fun _ _ _ _ _ _ _ hc q => mul_int q hc.ok
theorem op_fdiv : OpR X (binaryOp .FloorDiv) (rI CDiv fun i j => .int (i / j)) := opI fun i j _ _ _ _ _ hc q => by
 have h1 : (0 : Int) < j := hc.1
 have h2 : j < 1073741824 := hc.2
 exact floordiv_int (by omega) (by rw [Int.fdiv_eq_ediv_of_nonneg i (by omega)]; exact q) (.inl (PyProof.noPylong_small (by omega)))
theorem op_mod : OpR X (binaryOp .Mod) (rI (fun _ j => 0 < j) fun i j => .int (i % j)) := opI fun i j _ _ _ _ _ hc q => by
 have h1 : (0 : Int) < j := hc
 exact mod_int' (by omega) (by rw [Int.fmod_eq_emod_of_nonneg i (by omega)]; exact q)
theorem unI {f : Value → Sem Value} {g : Int → Int}
 (rule : ∀ (i : Int) (t : Tok) (s : Shared) (Q : Value → Shared → Prop) (E : Value → Shared → Prop), Q (.int (g i) s.toks) { s with toks := s.toks + 1 } → wpAny (model X.prog X.w) X.A (f (.int i t)) Q E s) :
 UnR X f (rU fun i => .int (g i)) := by
 intro pins s σ H x v Q I rx h
 obtain ⟨i, rfl, q⟩ := h
 obtain ⟨t, rfl⟩ := rx
 exact rule i t s _ _ ⟨.int (g i), H, I.tok _, ⟨_, rfl⟩, q⟩
theorem un_neg : UnR X (unaryOp .USub) (rU fun i => .int (-i)) := unI fun _ _ _ _ _ q => neg_int q
end
section
variable {X : Cx} {a b c : Expr} {ta tb tc : TE} {pos : Pos}
theorem fin_bl {pins : List (Addr × Obj)} {σ : St} {H : Hp} {s : Shared} {Q : VK} {k k' : Bool} (I : Inv X pins σ H s) (q : Q (.bl k) H) (e : k = k') : EP X pins σ Q (.bool k') s := by
 subst e
 exact ⟨.bl k, H, I, rfl, q⟩
theorem op_lt : OpR X (compareOp .Lt) (rI0 fun i j => .bl (decide (i < j))) := opB0 fun _ _ _ _ _ _ _ q => lt_int q
theorem op_le : OpR X (compareOp .LtE) (rI0 fun i j => .bl (decide (i ≤ j))) := opB0 fun _ _ _ _ _ _ _ q => le_int q
theorem op_gt : OpR X (compareOp .Gt) (rI0 fun i j => .bl (decide (j < i))) := opB0 fun _ _ _ _ _ _ _ q => gt_int q
theorem op_ge : OpR X (compareOp .GtE) (rI0 fun i j => .bl (decide (j ≤ i))) := opB0 fun _ _ _ _ _ _ _ q => ge_int q
theorem op_in_str : OpR X (compareOp .In) (fun x y H Q => ∃ i j, x = .str i ∧ y = .str j ∧ Q (.bl (!(Builtin.Str.occurrences j i 0 j.length 1).isEmpty)) H) := by
 intro pins s σ H x y v u Q I rx ry h
 obtain ⟨i, j, rfl, rfl, q⟩ := h
 obtain ⟨t, rfl⟩ := rx
 obtain ⟨t', rfl⟩ := ry
 exact in_str (fin_bl I q rfl)
theorem op_isN : OpR X (compareOp .Is) (fun x y H Q => y = .non ∧ Q (.bl (decide (x = .non))) H) := by
 intro pins s σ H x y v u Q I rx ry h
 obtain ⟨rfl, q⟩ := h
 cases ry
 refine is_none_gen (fin_bl I q ?_)
 cases x <;> first
  | (cases rx; rfl)
  | (obtain ⟨t, rfl⟩ := rx; rfl)
theorem op_notN : OpR X (compareOp .IsNot) (fun x y H Q => y = .non ∧ Q (.bl (!decide (x = .non))) H) := by
 intro pins s σ H x y v u Q I rx ry h
 obtain ⟨rfl, q⟩ := h
 cases ry
 refine isnot_none_gen (fin_bl I q ?_)
 cases x <;> first
  | (cases rx; rfl)
  | (obtain ⟨t, rfl⟩ := rx; rfl)
theorem op_notin_str : OpR X (compareOp .NotIn) (fun x y H Q => ∃ i j, x = .str i ∧ y = .str j ∧ Q (.bl (!(!(Builtin.Str.occurrences j i 0 j.length 1).isEmpty))) H) := by
 intro pins s σ H x y v u Q I rx ry h
 obtain ⟨i, j, rfl, rfl, q⟩ := h
 obtain ⟨t, rfl⟩ := rx
 obtain ⟨t', rfl⟩ := ry
 exact notIn_str (fin_bl I q rfl)
theorem nomark (b : Expr) {op : CmpOp} (h : op ≠ .In := by decide) (h2 : op ≠ .NotIn := by decide) : behindInMarks op b = false := by
 have e1 : (op == CmpOp.In) = false := by cases op <;> first | rfl | exact absurd rfl h
 have e2 : (op == CmpOp.NotIn) = false := by cases op <;> first | rfl | exact absurd rfl h2
 cases b <;> simp [behindInMarks, e1, e2]
theorem pe_cmpR {op : CmpOp} {r : R2} (ho : OpR X (compareOp op) r) (ha : PE X a ta) (hb : PE X b tb) (hm : behindInMarks op b = false) : PE X (.Compare a [op] [b] pos) (tOp r ta tb) := by
 intro pins s σ H Q I h
 exact wpAny_Compare1 (binT ha hb I h fun v u s2 x y H2 I2 rx ry q => ho pins s2 σ H2 x y v u Q I2 rx ry q) hm
def tTest (t : TE) : TT := fun σ H Q => t σ H fun x H' => ∃ k, x = .bl k ∧ Q k H'
theorem pt_cmpR {op : CmpOp} {r : R2} (ho : OpR X (compareOp op) r) (ha : PE X a ta) (hb : PE X b tb) (hm : behindInMarks op b = false) : PT X (.Compare a [op] [b] pos) (tTest (tOp r ta tb)) := by
 intro pins s σ H Q I h
 refine wpAny_isTrue_Compare1 (thn (ha pins s σ H _ I h) fun v s1 ⟨x, H1, I1, r1, q1⟩ => thn (hb pins s1 σ H1 _ I1 q1) fun u s2 ⟨y, H2, I2, r2, q2⟩ =>
  thn (ho pins s2 σ H2 x y v u _ I2 r1 r2 q2) fun c s3 ⟨z, H3, I3, r3, k, e, q3⟩ => ?_) hm
 subst e
 cases r3
 exact wpAny_truthy_bool ⟨H3, I3, q3⟩
def tChain (r r' : R2) (ta tb tc : TE) : TE := fun σ H Q => ta σ H fun x H1 => tb σ H1 fun y H2 => r x y H2 fun z H3 => ∃ k, z = .bl k ∧
 (if k = true then tc σ H3 fun w' H4 => r' y w' H4 Q else Q (.bl false) H3)
theorem pe_chain {op op' : CmpOp} {r r' : R2} (ho : OpR X (compareOp op) r) (ho' : OpR X (compareOp op') r') (ha : PE X a ta) (hb : PE X b tb) (hc : PE X c tc)
 (hm : lastMarks [op, op'] [b, c] = false := by with_unfolding_all rfl) : PE X (.Compare a [op, op'] [b, c] pos) (tChain r r' ta tb tc) := by
 intro pins s σ H Q I h
 refine Compare_chain (thn (ha pins s σ H _ I h) fun v s1 ⟨x, H1, I1, r1, q1⟩ => chain_link (thn (hb pins s1 σ H1 _ I1 q1) fun u s2 ⟨y, H2, I2, r2, q2⟩ =>
  thn (ho pins s2 σ H2 x y v u _ I2 r1 r2 q2) fun d s3 ⟨z, H3, I3, r3, k, e, q3⟩ => ?_)) hm
 subst e
 cases r3
 refine wpAny_truthy_bool ?_
 cases k with
 | false => exact ite_ff ⟨.bl false, H3, I3, rfl, q3⟩
 | true => exact ite_tt (chain_last (thn (hc pins s3 σ H3 _ I3 q3) fun w' s4 ⟨z', H4, I4, r4, q4⟩ => ho' pins s4 σ H4 y z' u w' Q I4 r2 r4 q4))
theorem pt_chain {op op' : CmpOp} {r r' : R2} (ho : OpR X (compareOp op) r) (ho' : OpR X (compareOp op') r') (ha : PE X a ta) (hb : PE X b tb) (hc : PE X c tc)
 (hm : lastMarks [op, op'] [b, c] = false := by with_unfolding_all rfl) : PT X (.Compare a [op, op'] [b, c] pos) (tTest (tChain r r' ta tb tc)) := by
 intro pins s σ H Q I h
 refine isTrue_chain (thn (ha pins s σ H _ I h) fun v s1 ⟨x, H1, I1, r1, q1⟩ => test_link (thn (hb pins s1 σ H1 _ I1 q1) fun u s2 ⟨y, H2, I2, r2, q2⟩ =>
  thn (ho pins s2 σ H2 x y v u _ I2 r1 r2 q2) fun d s3 ⟨z, H3, I3, r3, k, e, q3⟩ => ?_)) hm
 subst e
 cases r3
 refine wpAny_truthy_bool ?_
 cases k with
 | false =>
  obtain ⟨k', e', q'⟩ := q3
  cases e'
  exact ite_ff ⟨H3, I3, q'⟩
 | true =>
  refine ite_tt (test_last (thn (hc pins s3 σ H3 _ I3 q3) fun w' s4 ⟨z', H4, I4, r4, q4⟩ => thn (ho' pins s4 σ H4 y z' u w' _ I4 r2 r4 q4) fun d' s5 ⟨z2, H5, I5, r5, k2, e2, q5⟩ => ?_))
  subst e2
  cases r5
  exact wpAny_truthy_bool ⟨H5, I5, q5⟩
theorem line63 : (sizeLine : Nat) < 2 ^ 63 := by rw [sizeLine_eq]; decide
theorem op_add_str : OpR X (binaryOp .Add) (fun x y H Q => ∃ i j, x = .str i ∧ y = .str j ∧ i.length + j.length ≤ sizeLine ∧ Q (.str (i ++ j)) H) := by
 intro pins s σ H x y v u Q I rx ry h
 obtain ⟨i, j, rfl, rfl, hz, q⟩ := h
 obtain ⟨t, rfl⟩ := rx
 obtain ⟨t', rfl⟩ := ry
 exact add_str (fun t' tk => ⟨.str (i ++ j), H, I.tok _, ⟨_, rfl⟩, q⟩) hz
theorem vals1 {x : V} {us : List Value} (r : Vals [x] us) : ∃ u, us = [u] ∧ RelV x u := by
 cases r with
 | cons r1 r2 => cases r2; exact ⟨_, rfl, r1⟩
theorem vals2 {x y : V} {us : List Value} (r : Vals [x, y] us) : ∃ u w', us = [u, w'] ∧ RelV x u ∧ RelV y w' := by
 cases r with
 | cons r1 r2 =>
  cases r2 with
  | cons r3 r4 => cases r4; exact ⟨_, _, rfl, r1, r3⟩
theorem call_abs : CallR X (.builtin "abs") (fun xs H Q => ∃ i, xs = [.int i] ∧ Q (.int (if i < 0 then -i else i)) H) := by
 intro pins s σ H xs us Q I r h
 obtain ⟨i, rfl, q⟩ := h
 obtain ⟨u, rfl, t, rfl⟩ := vals1 r
 exact call_abs_int fun u tk => ⟨.int (if i < 0 then -i else i), H, I.tok _, ⟨_, rfl⟩, q⟩
theorem call_max2 (hc : X.calm = true) : CallR X (.builtin "max") (fun xs H Q => ∃ i j, xs = [.int i, .int j] ∧ Q (.int (if j > i then j else i)) H) := by
 intro pins s σ H xs us Q I r h
 obtain ⟨i, j, rfl, q⟩ := h
 obtain ⟨u, w', rfl, ⟨t, rfl⟩, ⟨t', rfl⟩⟩ := vals2 r
 refine max_two_ints (I.ok.hd hc) fun h' tk k => ⟨_, H, I.kept k, ?_, q⟩
 by_cases hj : j > i
 ·rw [if_pos hj, if_pos hj]; exact ⟨_, rfl⟩
 ·rw [if_neg hj, if_neg hj]; exact ⟨_, rfl⟩
theorem call_min2 (hc : X.calm = true) : CallR X (.builtin "min") (fun xs H Q => ∃ i j, xs = [.int i, .int j] ∧ Q (.int (if j < i then j else i)) H) := by
 intro pins s σ H xs us Q I r h
 obtain ⟨i, j, rfl, q⟩ := h
 obtain ⟨u, w', rfl, ⟨t, rfl⟩, ⟨t', rfl⟩⟩ := vals2 r
 refine min_two_ints (I.ok.hd hc) fun h' tk k => ⟨_, H, I.kept k, ?_, q⟩
 by_cases hj : j < i
 ·rw [if_pos hj, if_pos hj]; exact ⟨_, rfl⟩
 ·rw [if_neg hj, if_neg hj]; exact ⟨_, rfl⟩
theorem call_int1 : CallR X (.type "int") (fun xs H Q => (∃ i, xs = [.int i] ∧ Q (.int i) H) ∨ ∃ k, xs = [.bl k] ∧ Q (.int (if k then 1 else 0)) H) := by
 intro pins s σ H xs us Q I r h
 rcases h with ⟨i, rfl, q⟩ | ⟨k, rfl, q⟩
 ·obtain ⟨u, rfl, t, rfl⟩ := vals1 r
  exact call_int_int ⟨.int i, H, I, ⟨_, rfl⟩, q⟩
 ·obtain ⟨u, rfl, r1⟩ := vals1 r
  cases r1
  exact call_int_bool ⟨.int (if k then 1 else 0), H, I.tok _, ⟨_, rfl⟩, q⟩
theorem call_str_int : CallR X (.type "str") (fun xs H Q => ∃ i, xs = [.int i] ∧ i.natAbs.log2 < 1920 ∧ Q (.str (toString i)) H) := by
 intro pins s σ H xs us Q I r h
 obtain ⟨i, rfl, hz, q⟩ := h
 obtain ⟨u, rfl, t, rfl⟩ := vals1 r
 exact PySem.P.str_of_int hz ⟨.str _, H, I.tok _, ⟨_, rfl⟩, q⟩
end
end L2
namespace L2
open PySem PySem.Spec PyProof.Rows
section
variable {prog : Program} {w : World} {A : Around} {E : Value → Shared → Prop} {s : Shared} {K : PySem.W.Frag} {x dx C f : Addr} {mA : Str → Option Value} {name : Str} {v : Value}
end
section
variable {P : Program} {w : World} {H H' : Hp} {h h' : Heap} {a C dx : Addr} {fs fs' : List (Str × V)}
end
section
variable {X : Cx} {pins : List (Addr × Obj)} {σ : St} {H : Hp} {s : Shared} {a C dx : Addr} {fs : List (Str × V)} {f : Str} {v : V} {A : Around} {E : Value → Shared → Prop}
end
section
variable {X : Cx} {o e value : Expr} {f : Str} {pos pos' tpos : Pos} {ta tv : TE}
end
section
variable {X : Cx} {pins : List (Addr × Obj)} {σ : St} {H : Hp} {s : Shared} {A : Around} {E : Value → Shared → Prop} {Q : Value → Shared → Prop} {c : Value} {b : Bool}
end
end L2
namespace L2
open PySem PySem.Spec PyProof.Rows
structure Room (k : Nat) (A : Around) : Prop where
 hd : A.handled = none
 dp : A.depth + 3 * k + 5 < recursionLimit
 un : A.units + 16 * k + 200 < cLine
theorem Room.mono {j k : Nat} {A : Around} (r : Room k A) (h : j ≤ k) : Room j A := ⟨r.hd, by have := r.dp; omega, by have := r.un; omega⟩
theorem Room.deeper {k : Nat} {A : Around} (r : Room (k + 1) A) (env : Env) : Room k (A.deeper env) :=
 ⟨r.hd, by have := r.dp; show A.depth + 1 + 3 * k + 5 < _; omega, by have := r.un; show A.units + 3 + 16 * k + 200 < _; omega⟩
theorem Room.depth {k : Nat} {A : Around} (r : Room k A) : A.depth < recursionLimit := by have := r.dp; omega
theorem Room.units {k : Nat} {A : Around} (r : Room k A) : A.units + 64 < cLine := by have := r.un; omega
def tNil : TA := fun _ H Q => Q [] H
def tCons (ta : TE) (tr : TA) : TA := fun σ H Q => ta σ H fun x H1 => tr σ H1 fun xs H2 => Q (x :: xs) H2
section
variable {X : Cx} {e : Expr} {es : List Expr} {te : TE} {t : TA} {pos : Pos}
theorem pa_nil : PA X [] tNil := fun _ _ _ _ H Q I h => Calls.spliced_nil ⟨[], H, I, .nil, h⟩
theorem pa_cons (ha : PE X e te) (hr : PA X es t) (hs : starEach (e :: es) X.env = (false, eval e X.env) :: starEach es X.env := by rfl) : PA X (e :: es) (tCons te t) := by
 intro pos pins s σ H Q I h
 rw [hs]
 show wpAny _ _ (spliced ((false, eval e X.env) :: backTo pos (starEach es X.env))) _ _ s
 refine Calls.spliced_cons (thn (ha pins s σ H _ I h) fun u s1 ⟨x, H1, I1, r1, q1⟩ => ?_)
 exact thn (hr pos pins s1 σ H1 _ I1 q1) fun us s2 ⟨xs, H2, I2, r2, q2⟩ => ⟨x :: xs, H2, I2, .cons r1 r2, q2⟩
def tTup (t : TA) : TE := fun σ H Q => t σ H fun xs H1 => xs.length ≤ sizeLine ∧ ∀ p, H1 p = none → Q (.ref p) (upd H1 p (.tup xs))
def tLst (t : TA) : TE := fun σ H Q => t σ H fun xs H1 => xs.length ≤ sizeLine ∧ ∀ p, H1 p = none → Q (.ref p) (upd H1 p (.lst xs))
theorem pe_tup {x1} (h : PA X es t) : PE X (.Tuple es x1 pos) (tTup t) := by
 intro pins s σ H Q I hq
 refine wpAny_Tuple_spliced (thn (h pos pins s σ H _ I hq) fun us s1 ⟨xs, H1, I1, r, z, q⟩ => ⟨by rw [← r.length]; exact z, ?_⟩)
 have hf : H1 s1.heap.objs.size = none := I1.hok.fresh (Nat.le_refl _)
 refine ⟨.ref s1.heap.objs.size, upd H1 s1.heap.objs.size (.tup xs), I1.laid (t' := s1.toks) (fun b u e => Heap.get?_push_of_some _ e) (Nat.le_refl _) ?_, rfl, q _ hf⟩
 exact ⟨z, us, r, ⟨_, Heap.get?_push_size _ rfl, rfl, _, rfl⟩⟩
theorem pe_lst (h : PA X es t) : PE X (.List es pos) (tLst t) := by
 intro pins s σ H Q I hq
 refine wpAny_List_spliced (thn (h pos pins s σ H _ I hq) fun us s1 ⟨xs, H1, I1, r, z, q⟩ => ⟨by rw [← r.length]; exact z, ?_⟩)
 have hf : H1 s1.heap.objs.size = none := I1.hok.fresh (Nat.le_refl _)
 refine ⟨.ref s1.heap.objs.size, upd H1 s1.heap.objs.size (.lst xs), I1.laid (t' := s1.toks) (fun b u e => Heap.get?_push_of_some _ e) (Nat.le_refl _) ?_, rfl, q _ hf⟩
 exact ⟨z, us, 0, r, Heap.get?_push_size _ rfl⟩
end
abbrev Sp := List V → Hp → VK → XK → Prop
abbrev CXT := List Env → Hp → Shared → XK → Value → Shared → Prop
structure Env0 (P : Program) (w : World) (K : PySem.W.Frag) (mg : Str → Option Value) (base : Heap) (A : Around) (outer : List Env) (s : Shared) (H : Hp) : Prop where
 frames : A.frames = some outer
 mod : Mod K mg base
 bs : ∀ b o, base.get? b = some o → s.heap.get? b = some o ∧ H b = none
 bsz : base.objs.size ≤ s.heap.objs.size
 funs : s.heap.FunFrames base outer
 frf : ∀ b ∈ frs outer, H b = none
 hok : HOk P w H s.heap
 bare : AllBare s.gens
def CE (outer : List Env) (P : Program) (w : World) (H : Hp) (s : Shared) (Q : VK) (u : Value) (s' : Shared) : Prop :=
 ∃ v H', s'.os = s.os ∧ AllBare s'.gens ∧ Un (frs outer) [] H H' s.heap s'.heap ∧ HOk P w H' s'.heap ∧ RelV v u ∧ Q v H'
def CR (CX : CXT) (outer : List Env) (P : Program) (w : World) (H : Hp) (s : Shared) (Q : VK) (E : XK) (r : Result) (s' : Shared) : Prop :=
 match r with
 | .ok (.ret u) => CE outer P w H s Q u s'
 | .ok _ => False
 | .error e => CX outer H s E e s'
structure FnOk (P : Program) (w : World) (K : PySem.W.Frag) (mg : Str → Option Value) (base : Heap) (CX : CXT) (k : Nat) (f : Addr) (fd : FuncData) (ps : List Str) (sp : Sp) : Prop where
 len : ∀ vs H Q E, sp vs H Q E → vs.length = ps.length
 run : ∀ (A : Around) (outer : List Env) (s : Shared) (H : Hp) (args : Args) (us : List Value) (vs : List V) (Q : VK) (E : XK), Room k A → Env0 P w K mg base A outer s H → BindsTo s fd args (ps.zip us) → Vals vs us → sp vs H Q E →
  codeAny (model P w) A (.call (.ref f) args) (CR CX outer P w H s Q E) s
theorem FnOk.mono {P : Program} {w : World} {K : PySem.W.Frag} {mg : Str → Option Value} {base : Heap} {CX : CXT} {j k : Nat} {f : Addr} {fd : FuncData} {ps : List Str} {sp : Sp} (F : FnOk P w K mg base CX j f fd ps sp) (h : j ≤ k) :
 FnOk P w K mg base CX k f fd ps sp := ⟨F.len, fun A outer s H args us vs Q E hr => F.run A outer s H args us vs Q E (hr.mono h)⟩
theorem FnOk.imp {P : Program} {w : World} {K : PySem.W.Frag} {mg : Str → Option Value} {base : Heap} {CX : CXT} {k : Nat} {f : Addr} {fd : FuncData} {ps : List Str} {sp sp' : Sp} (F : FnOk P w K mg base CX k f fd ps sp)
 (h : ∀ vs H Q E, sp' vs H Q E → sp vs H Q E) : FnOk P w K mg base CX k f fd ps sp' :=
 ⟨fun vs H Q E q => F.len vs H Q E (h _ _ _ _ q), fun A outer s H args us vs Q E hr he hb hv hs => F.run A outer s H args us vs Q E hr he hb hv (h _ _ _ _ hs)⟩
section
variable {X : Cx} {pins : List (Addr × Obj)} {σ : St} {H : Hp} {s s' : Shared}
theorem Inv.env0 (I : Inv X pins σ H s) : Env0 X.prog X.w X.K X.mg X.base X.A X.stack s H :=
 ⟨I.ok.frames, I.ok.mod, I.bs, Nat.le_trans I.ok.bsz I.sz, I.stack, I.stkFree, I.hok, I.bare⟩
theorem Inv.after {Q : VK} {u : Value} (I : Inv X pins σ H s) (h : CE X.stack X.prog X.w H s Q u s') : EP X pins σ Q u s' := by
 obtain ⟨v, H', os, bare, un, hok, r, q⟩ := h
 obtain ⟨hh, g, d, t, os'⟩ := s'
 obtain rfl : os' = s.os := os
 exact ⟨v, H', I.call (h' := hh) (g' := g) (d' := d) (t' := t) (ch := []) un hok bare (fun b z => absurd z (by simp)), r, q⟩
end
def Binds (K : PySem.W.Frag) (fd : FuncData) (ps : List Str) (ds : List Value) : Prop :=
 ∀ (s : Shared) (us : List Value), K.In s.heap → (us ++ ds).length = ps.length → BindsTo s fd ⟨us, []⟩ (ps.zip (us ++ ds))
theorem Binds.all {K : PySem.W.Frag} {fd : FuncData} {ps : List Str} (h : ∀ us : List Value, us.length = ps.length → bindArgs fd ⟨us, []⟩ = pure (ps.zip us)) : Binds K fd ps [] := fun s us _ hl => by
 rw [List.append_nil] at hl ⊢
 exact .of_eq (h us hl)
def Passes (CX : CXT) (X : Cx) (E : XK) : Prop := ∀ (pins : List (Addr × Obj)) (σ : St) (H : Hp) (s : Shared) (e : Value) (s' : Shared), Inv X pins σ H s → CX X.stack H s E e s' → X.xe e s'
section
variable {X : Cx} {CX : CXT} {k : Nat} {f C : Addr} {fd : FuncData} {ps : List Str} {sp : Sp} {dvs : List V} {ds : List Value} {E : XK} {x m : Str} {p pos apos : Pos} {e o : Expr} {es : List Expr} {ta : TE} {t : TA}
end
section
variable {X : Cx} {CX : CXT} {k : Nat} {f C : Addr} {fd : FuncData} {ps ks : List Str} {sp : Sp} {E : XK} {x m : Str} {p pos apos kpos : Pos} {e o : Expr} {es : List Expr} {kws : List Keyword} {te ta : TE} {t tk : TA} {nm : Option Str}
variable {g : List Value → List Value → List Value} {gV : List V → List V → List V}
end
structure FnScope (N P : List Str) (sc : Scope) : Prop where
 kind : sc.kind = .function
 co : sc.isCoroutine = false
 gen : sc.isGenerator = false
 nd : N.Nodup
 pre : N.take P.length = P
 par : ∀ x ∈ P, sc.names.lookup x = some .local ∨ sc.names.lookup x = some .cell
 nofree : ∀ y ∈ sc.names, y.2 ≠ .free
theorem bindL_out {kindOf : Str → Option NameKind} {x : Str} : ∀ {binds : List (Str × Value)} {m : Str → Option Value}, (∀ v, (x, v) ∉ binds) → bindL kindOf binds m x = m x
 | [], _, _ => rfl
 | (n, v) :: r, m, h => by
  unfold bindL
  rw [bindL_out fun w hw => h w (List.mem_cons_of_mem _ hw)]
  split
  ·have : x ≠ n := by rintro rfl; exact h v List.mem_cons_self
   simp [this]
  ·rfl
theorem bindC_out {kindOf : Str → Option NameKind} {x : Str} : ∀ {binds : List (Str × Value)} {m : Str → Option Value}, (∀ v, (x, v) ∉ binds) → bindC kindOf binds m x = m x
 | [], _, _ => rfl
 | (n, v) :: r, m, h => by
  unfold bindC
  rw [bindC_out fun w hw => h w (List.mem_cons_of_mem _ hw)]
  split
  ·rfl
  ·have : x ≠ n := by rintro rfl; exact h v List.mem_cons_self
   simp [this]
theorem bindL_get {kindOf : Str → Option NameKind} {x : Str} {v : Value} : ∀ {P : List Str} {vs : List Value} {i : Nat} {m : Str → Option Value}, P.Nodup → P[i]? = some x → vs[i]? = some v → kindOf x = some .local →
 bindL kindOf (P.zip vs) m x = some v
 | [], _, _, _, _, h, _, _ => by simp at h
 | _ :: _, [], _, _, _, _, h, _ => by simp at h
 | p :: P, w :: vs, 0, m, nd, h1, h2, hk => by
  simp at h1 h2; subst h1; subst h2
  show bindL kindOf ((p, w) :: P.zip vs) m p = _
  unfold bindL
  rw [bindL_out fun v hv => (List.nodup_cons.mp nd).1 (List.of_mem_zip hv).1, if_pos hk]
  simp
 | p :: P, w :: vs, i + 1, m, nd, h1, h2, hk => by
  show bindL kindOf ((p, w) :: P.zip vs) m x = _
  unfold bindL
  exact bindL_get (i := i) (List.nodup_cons.mp nd).2 (by simpa using h1) (by simpa using h2) hk
theorem bindC_get {kindOf : Str → Option NameKind} {x : Str} {v : Value} : ∀ {P : List Str} {vs : List Value} {i : Nat} {m : Str → Option Value}, P.Nodup → P[i]? = some x → vs[i]? = some v → kindOf x ≠ some .local →
 bindC kindOf (P.zip vs) m x = some v
 | [], _, _, _, _, h, _, _ => by simp at h
 | _ :: _, [], _, _, _, _, h, _ => by simp at h
 | p :: P, w :: vs, 0, m, nd, h1, h2, hk => by
  simp at h1 h2; subst h1; subst h2
  show bindC kindOf ((p, w) :: P.zip vs) m p = _
  unfold bindC
  rw [bindC_out fun v hv => (List.nodup_cons.mp nd).1 (List.of_mem_zip hv).1, if_neg hk]
  simp
 | p :: P, w :: vs, i + 1, m, nd, h1, h2, hk => by
  show bindC kindOf ((p, w) :: P.zip vs) m x = _
  unfold bindC
  exact bindC_get (i := i) (List.nodup_cons.mp nd).2 (by simpa using h1) (by simpa using h2) hk
def start (N : List Str) (vs : List V) : St := vs.map some ++ List.replicate (N.length - vs.length) none
def cxOf (CX : CXT) (P : Program) (w : World) (K : PySem.W.Frag) (mg : Str → Option Value) (base : Heap) (N : List Str) (qual : Str) (scope : Scope) (f : Addr) (cd : Value) (A : Around) (outer : List Env) (s : Shared) (H : Hp) (E : XK) : Cx where
 prog := P
 w := w
 K := K
 mg := mg
 base := base
 A := A.deeper (envOfC qual scope s.heap.objs.size f cd)
 N := N
 s₀ := s
 H₀ := H
 env := envOfC qual scope s.heap.objs.size f cd
 outer := outer
 stack := envOfC qual scope s.heap.objs.size f cd :: outer
 ex := []
 calm := true
 fn := fun _ => true
 pn := []
 xe := fun e s' => wpAny (model P w) (A.deeper (envOfC qual scope s.heap.objs.size f cd)) (leaving (envOfC qual scope s.heap.objs.size f cd) e) (fun _ s'' => CX outer H s E e s'') (fun e' s'' => CX outer H s E e' s'') s'
theorem cell_has {sc : Scope} {n : Nat} {x : Str} (h : sc.names.lookup x = some .cell) : ∃ c, (cellsFrom n sc.names []).lookup x = some c := by
 have q := PySem.W.cellsFrom_some sc.names n [] (.inl h)
 exact Option.isSome_iff_exists.mp q
theorem inv_start {CX : CXT} {P : Program} {w : World} {K : PySem.W.Frag} {mg : Str → Option Value} {base : Heap} {N ps : List Str} {qual : Str} {scope : Scope} {f : Addr} {cd : Value} {A : Around} {outer : List Env} {s s1 : Shared} {H : Hp} {E : XK} {us : List Value} {vs : List V}
 (S : FnScope N ps scope) (hd : A.handled = none) (e0 : Env0 P w K mg base A outer s H) (hl : vs.length = ps.length) (r : Vals vs us)
 (x : InCallC s s.heap.objs.size (bindL (envOfC qual scope s.heap.objs.size f cd).kindOf (ps.zip us) fun _ => none) (cellsFrom (s.heap.objs.size + 1) scope.names []) (bindC (envOfC qual scope s.heap.objs.size f cd).kindOf (ps.zip us) fun _ => none) s1) :
 Inv (cxOf CX P w K mg base N qual scope f cd A outer s H E) [] (start N vs) H s1 := by
 have hpl : ps.length ≤ N.length := by have := congrArg List.length S.pre; rw [List.length_take] at this; omega
 obtain ⟨h1, tk, rfl, hk⟩ := x.done
 have noA : ∀ b : Addr, b ∉ (cxOf CX P w K mg base N qual scope f cd A outer s H E).ex := fun b z => absurd (show b ∈ ([] : List Addr) from z) (by simp)
 refine ⟨⟨e0.mod, S.kind, rfl, rfl, Nat.le_refl _, fun y z c h1 h2 => ?_, fun y hy => ?_, fun y c _ h => ?_, fun _ => hd, Around.frames_deeper e0.frames, .inr ⟨rfl, rfl⟩, fun b z => absurd z (noA b), e0.bs, e0.bsz, fun b _ _ => noA b, fun b z => absurd z (noA b), e0.funs, e0.frf⟩,
  rfl, e0.bare, Un.kept hk, ⟨_, x.toInCall.ns, fun i y v h1 h2 h3 => ?_⟩, fun y c h => ⟨_, x.cell y c h⟩, e0.hok.fresh (Nat.le_refl _), fun y c h => ?_, fun p hp => absurd (show p ∈ ([] : List (Addr × Obj)) from hp) (by simp), e0.hok.kept hk, ?_⟩
 ·exact name_of_addr x.apart (PySem.mem_of_lookup h1) (PySem.mem_of_lookup h2)
 ·have hy : scope.names.lookup y = some .cell ∨ scope.names.lookup y = some .free := hy
  rcases hy with hy | hy
  ·exact cell_has hy
  ·exact absurd rfl (S.nofree _ (PySem.mem_of_lookup hy))
 ·exact Nat.le_of_lt (x.above y c (PySem.mem_of_lookup h))
 ·have hi : i < vs.length := by
   unfold start at h2
   by_cases hi : i < vs.length
   ·exact hi
   ·rw [List.getElem?_append_right (by simpa using hi)] at h2
    rw [List.getElem?_replicate] at h2
    split at h2 <;> cases h2
  have ha : vs[i]? = some v := by
   unfold start at h2
   rw [List.getElem?_append_left (by simpa using hi), List.getElem?_map] at h2
   cases e : vs[i]? with
   | none => rw [e] at h2; cases h2
   | some a => rw [e] at h2; cases h2; rfl
  obtain ⟨u, hu, rv⟩ := r.get ha
  have hp : ps[i]? = some y := by
   rw [← S.pre, List.getElem?_take_of_lt (by omega)]; exact h1
  have ndP : ps.Nodup := by rw [← S.pre]; exact S.nd.sublist (List.take_sublist _ _)
  refine ⟨u, rv, ?_⟩
  rcases S.par y (List.mem_of_getElem? hp) with k | k
  ·exact .inl ⟨k, bindL_get ndP hp hu k⟩
  ·obtain ⟨c, e⟩ := cell_has (n := s.heap.objs.size + 1) k
   refine .inr ⟨.inl k, c, e, ?_⟩
   have q := x.cell y c e
   rw [bindC_get ndP hp hu (by show scope.names.lookup y ≠ _; rw [k]; decide)] at q
   exact q
 ·exact e0.hok.fresh (Nat.le_of_lt (x.above y c (PySem.mem_of_lookup h)))
 ·unfold start
  show _ = N.length
  rw [List.length_append, List.length_map, List.length_replicate]
  omega
theorem fn_of {CX : CXT} {P : Program} {w : World} {K : PySem.W.Frag} {mg : Str → Option Value} {base : Heap} {k : Nat} {f : Addr} {name qual : Str} {params : Arguments} {body : List Stmt} {scope : Scope} {dV kV doc pm cdv ct oc : Value} {an od : Option Addr}
 {osl : Array (Option Value)} {N ps : List Str} {sp : Sp} (lk : K.lookup f = some ⟨oc, od, .func (PySem.W.fnOf name qual params body scope dV kV doc pm an cdv ct), osl⟩) (hcd : PySem.W.codeIn K cdv qual = true) (S : FnScope N ps scope)
 (len : ∀ vs H Q E, sp vs H Q E → vs.length = ps.length)
 (hbody : ∀ (A : Around) (outer : List Env) (s : Shared) (H : Hp) (vs : List V) (Q : VK) (E : XK), Room k (A.deeper (envOfC qual scope s.heap.objs.size f cdv)) → sp vs H Q E →
  ∃ t, PSs (cxOf CX P w K mg base N qual scope f cdv A outer s H E) body t ∧ t { nx := fun _ H' => Q .non H', rt := Q } (start N vs) H) :
 FnOk P w K mg base CX (k + 1) f (PySem.W.fnOf name qual params body scope dV kV doc pm an cdv ct) ps sp := by
 refine ⟨len, fun A outer s H args us vs Q E hr e0 hb r hsp => ?_⟩
 have hl := len _ _ _ _ hsp
 have KX : K.In s.heap := e0.mod.kin.keeps fun b o e => (e0.bs b o e).1
 have lim : s.heap.NoLimit := e0.mod.nolimit.keeps fun b o e => (e0.bs b o e).1
 have hkind : ∀ y ∈ ps.zip us, scope.names.lookup y.1 = some .local ∨ (scope.names.lookup y.1 = some .cell ∧ ((cellsFrom (s.heap.objs.size + 1) scope.names []).lookup y.1).isSome = true) := fun ⟨n, v⟩ hy => by
  rcases S.par n (List.of_mem_zip hy).1 with q | q
  ·exact .inl q
  ·exact .inr ⟨q, PySem.W.cellsFrom_some _ _ _ (.inl q)⟩
 refine codeAny_call_function hr.depth (KX _ _ lk) rfl S.co S.gen rfl (PySem.W.codeRec_of KX hcd) (hb _ _ _ _ ?_)
 refine wpAny_newFunctionEnv_cells S.kind hkind fun env he s1 x => ?_
 subst he
 refine ⟨lim.keeps x.toInCall.keep, codeAny_func ?_⟩
 obtain ⟨t, ht, hq⟩ := hbody A outer s H vs Q E (hr.deeper _) hsp
 have I : Inv (cxOf CX P w K mg base N qual scope f cdv A outer s H E) [] (start N vs) H s1 := inv_start S hr.hd e0 hl r x
 refine wpAny_mono (ht [] s1 (start N vs) H _ I hq) (fun fl s' hs => ?_) fun e s' hs => hs
 have fin : ∀ {σ' : St} {H' : Hp} {v : V} {u : Value}, Inv (cxOf CX P w K mg base N qual scope f cdv A outer s H E) [] σ' H' s' → RelV v u → Q v H' → CE outer P w H s Q u s' :=
  fun {σ' H' v u} J rv q => ⟨v, H', J.os, J.bare, J.base, J.hok, rv, q⟩
 cases fl with
 | ret u =>
  obtain ⟨v, σ', H', J, rv, q⟩ := hs
  exact fin J rv q
 | next =>
  obtain ⟨σ', H', J, q⟩ := hs
  exact fin (v := V.non) (u := Value.none) J rfl q
 | brk =>
  obtain ⟨_, _, _, q⟩ := hs
  exact False.elim q
 | cont =>
  obtain ⟨_, _, _, q⟩ := hs
  exact False.elim q
end L2
namespace L2
open PySem PySem.Spec PyProof.Rows
section
variable {X : Cx} {x : Str} {p pos : Pos} {e : Expr} {es : List Expr} {t : TA} {id T : String} {r : List V → Hp → VK → Prop}
def tCB (r : List V → Hp → VK → Prop) (t : TA) : TE := fun σ H Q => t σ H fun vs H1 => r vs H1 Q
theorem pe_callB (hc : CallR X (.builtin id) r) (hg : Gl X x) (hm : X.mg x = none) (hv : bootBuiltins x = some (.builtin id)) (ha : PA X (e :: es) t) (hn : x ≠ "__name__" := by decide) (hdb : (x == ("__debug__" : Str)) = false := by decide)
 (he : starEach (e :: es) X.env = (false, eval e X.env) :: starEach es X.env := by rfl) (hpl : (backTo pos (starEach es X.env)).any (·.1) = false := by rfl) : PE X (.Call (.Name x p) (e :: es) [] pos) (tCB r t) := by
 intro pins s σ H Q I h
 refine wpAny_Call_Name_kw (ld_blt I hg hm hv ?_ hn hdb)
 exact PyProof.Rows.callWith_builtin1 (thn (ha pos pins s σ H _ I h) fun us s1 ⟨vs, H1, I1, r1, q1⟩ => hc pins s1 σ H1 vs us Q I1 r1 q1) he hpl
theorem pe_callTy (hc : CallR X (.type T) r) (hg : Gl X x) (hm : X.mg x = none) (hv : bootBuiltins x = some (.type T)) (ha : PA X (e :: es) t) (hn : x ≠ "__name__" := by decide) (hdb : (x == ("__debug__" : Str)) = false := by decide)
 (he : starEach (e :: es) X.env = (false, eval e X.env) :: starEach es X.env := by rfl) (hpl : (backTo pos (starEach es X.env)).any (·.1) = false := by rfl) : PE X (.Call (.Name x p) (e :: es) [] pos) (tCB r t) := by
 intro pins s σ H Q I h
 refine wpAny_Call_Name_kw (ld_blt I hg hm hv ?_ hn hdb)
 exact PyProof.Rows.callWith_type1 (thn (ha pos pins s σ H _ I h) fun us s1 ⟨vs, H1, I1, r1, q1⟩ => hc pins s1 σ H1 vs us Q I1 r1 q1) he hpl
end
end L2
namespace HT
open PySem PyProof.Rows
def lexLt : List Int → List Int → Bool
 | [], [] => false
 | [], _ :: _ => true
 | _ :: _, [] => false
 | x :: xs, y :: ys => if x = y then lexLt xs ys else decide (x < y)
theorem lexLt_cons (x y : Int) (xs ys : List Int) : lexLt (x :: xs) (y :: ys) = if x = y then lexLt xs ys else decide (x < y) := rfl
theorem lexLt_nil_nil : lexLt [] [] = false := rfl
theorem lexLt_nil_cons (y : Int) (ys : List Int) : lexLt [] (y :: ys) = true := rfl
theorem lexLt_cons_nil (x : Int) (xs : List Int) : lexLt (x :: xs) [] = false := rfl
theorem eqAt_int (A : Around) (s : Shared) (a : Int) (t : Tok) (c : Int) (u : Tok) : ∃ e, SeqAt.EqAt A s (.int a t) (.int c u) e ∧ (e = true ↔ a = c) :=
 ⟨(a == c), SeqAt.EqAt.int_int a t c u, by simp⟩
theorem rcLt_int (A : Around) (s : Shared) (a : Int) (t : Tok) (c : Int) (u : Tok) (prog : Program) (w : World) (E : Value → Shared → Prop) (Q : Value → Shared → Prop) (h : Q (.bool (decide (a < c))) s) :
 wpAny (model prog w) A (richCompare .Lt (.int a t) (.int c u)) Q E s :=
 (PyProof.Rows.lt_int h : wpAny (model prog w) A (compareOp .Lt (.int a t) (.int c u)) Q E s)
section
open PySem.SeqAt
open PySem.AutoSeq1 (wpAny_loadPart')
open PySem.MeetsSeq PySem.MeetsSeq2 PySem.MeetsSeq3
theorem tuple_lt_ints (l b : Addr) (items items2 : Array Value) (n n2 : Nat) (dd dd2 : Option Addr) (sl sl2 : Array (Option Value)) (ns ms : List Int) (hi : IntsAre items.toList ns) (hj : IntsAre items2.toList ms) :
 Meets (Builtin.«tuple.__lt__» ⟨[.ref l, .ref b], []⟩)
  (fun _ R s => s.heap.get? l = some { cls := .type "tuple", dict := dd, data := .seq items n, slots := sl } ∧ s.heap.get? b = some { cls := .type "tuple", dict := dd2, data := .seq items2 n2, slots := sl2 } ∧
   R (.ok (.ret (.bool (lexLt ns ms)))) s) :=
 .of_wp fun prog w A R s h => by
  obtain ⟨hp, g, d, tk, os⟩ := s; obtain ⟨hl, hb, h⟩ := h
  have f2 := AutoSeq1.sub_tuple_tuple
  have z1 : items.size = ns.length := by rw [← hi.length]; simp
  have z2 : items2.size = ms.length := by rw [← hj.length]; simp
  wp_walk using wpAny_loadPart' hl, wpAny_loadPart' hb, wpAny_forIn_list _ (fun rest b s' => b.1 = none ∧ s' = ⟨hp, g, d, tk, os⟩ ∧ ∃ (vs ws : List Value) (ns' ms' : List Int), rest = vs.zip ws ∧
   IntsAre vs ns' ∧ IntsAre ws ms' ∧ ns'.length + items2.size = ms'.length + items.size ∧ R (.ok (.ret (.bool (lexLt ns' ms')))) ⟨hp, g, d, tk, os⟩) _
  case turn =>
   rintro ⟨y, x⟩ rest b s' ⟨hb', rfl, vs, ws, ns', ms', hz, hvi, hwi, hlen, hR⟩
   cases hvi with
   | nil => rw [List.zip_nil_left] at hz; cases hz
   | cons a t hvi' =>
    cases hwi with
    | nil => rw [List.zip_nil_right] at hz; cases hz
    | cons c u hwi' =>
     rw [List.zip_cons_cons] at hz
     injection hz with hyx hrest
     injection hyx with hy hx
     subst hy hx
     rw [lexLt_cons] at hR
     simp only [List.length_cons] at hlen
     obtain ⟨e, he, hiff⟩ := eqAt_int A.in1 ⟨hp, g, d, tk, os⟩ a t c u
     refine wpAny_bind (he prog w _ _ ?_)
     cases e with
     | true =>
      rw [if_pos (hiff.mp rfl)] at hR
      wp_walk
      exact ⟨rfl, rfl, _, _, _, _, hrest, hvi', hwi', by omega, hR⟩
     | false =>
      rw [if_neg (fun q => absurd (hiff.mpr q) Bool.false_ne_true)] at hR
      have hri := rcLt_int A.in1 ⟨hp, g, d, tk, os⟩ a t c u prog w
      wp_walk using hri
      exact ⟨_, rfl, by simpa using hR⟩
  case fin =>
   rintro ⟨b1, b2⟩ s' ⟨hb', rfl, vs, ws, ns', ms', hz, hvi, hwi, hlen, hR⟩
   simp only at hb'
   subst hb'
   have hv : lexLt ns' ms' = decide (items.size < items2.size) := by
    cases hvi with
    | nil =>
     cases hwi with
     | nil =>
      simp only [List.length_nil] at hlen
      rw [lexLt_nil_nil]
      exact (decide_eq_false (by omega)).symm
     | cons c u hw =>
      simp only [List.length_nil, List.length_cons] at hlen
      rw [lexLt_nil_cons]
      exact (decide_eq_true (by omega)).symm
    | cons a t hv =>
     cases hwi with
     | nil =>
      simp only [List.length_nil, List.length_cons] at hlen
      rw [lexLt_cons_nil]
      exact (decide_eq_false (by omega)).symm
     | cons c u hw =>
      rw [List.zip_cons_cons] at hz
      cases hz
   rw [hv] at hR
   wp_walk
   exact ⟨_, rfl, by simpa [Builtin.Tuple.tupleCompareSizes] using hR⟩
  case h =>
   exact ⟨rfl, rfl, items.toList, items2.toList, ns, ms, rfl, hi, hj, by omega, h⟩
end
section
variable {prog : Program} {w : World} {A : Around} {E : Value → Shared → Prop} {s : Shared}
theorem lt_tupInts {l b : Addr} {items items2 : Array Value} {ns ms : List Int} {Q : Value → Shared → Prop} (hl : IsTup s.heap l items) (hb : IsTup s.heap b items2) (hi : IntsAre items.toList ns) (hj : IntsAre items2.toList ms)
 (hu : A.units < cLine) (h : Q (.bool (lexLt ns ms)) s) : wpAny (model prog w) A (compareOp .Lt (.ref l) (.ref b)) Q E s := by
 obtain ⟨⟨cls, dd, data, sl⟩, ho, hc, n, hd⟩ := id hl
 obtain ⟨⟨cls2, dd2, data2, sl2⟩, ho2, hc2, n2, hd2⟩ := id hb
 simp only at hc hd hc2 hd2
 subst hc hd hc2 hd2
 exact richCompare_meets_room (op := .Lt) ⟨_, ho, rfl⟩ ⟨_, ho2, rfl⟩ PySem.F.slot_tuple_lt PySem.F.entry_tuple_lt (PySem.F.args_tuple_lt_2 _ _) (tuple_lt_ints l b items items2 n n2 dd dd2 sl sl2 ns ms hi hj)
  ⟨ho, ho2, show Value.bool (lexLt ns ms) ≠ Value.notImplemented ∧ Q (.bool (lexLt ns ms)) s from ⟨(fun x => nomatch x), h⟩⟩ hu
theorem cat_tup {t b : Addr} {vs ws : List Value} {Q : Value → Shared → Prop} (ht : IsTup s.heap t vs.toArray) (hb : IsTup s.heap b ws.toArray) (hv : vs ≠ [])
 (h1 : ws = [] → Q (.ref t) s) (h2 : ws ≠ [] → Q (.ref s.heap.objs.size) { s with heap := s.heap.push { cls := .type "tuple", data := .seq (vs ++ ws).toArray } })
 (hsz : vs.length + ws.length ≤ sizeLine) : wpAny (model prog w) A (binaryOp .Add (.ref t) (.ref b)) Q E s := by
 obtain ⟨⟨cls, dd, data, sl⟩, ho, hc, n, hd⟩ := id ht
 obtain ⟨⟨cls2, dd2, data2, sl2⟩, ho2, hc2, n2, hd2⟩ := id hb
 simp only at hc hd hc2 hd2
 subst hc hd hc2 hd2
 have e : vs.toArray ++ ws.toArray = (vs ++ ws).toArray := by simp
 by_cases hw : ws = []
 ·exact concat_meets ⟨_, ho, rfl⟩ ⟨_, ho2, rfl⟩ noFill_tuple_add seq_tuple_add PySem.F.slot_tuple_add PySem.F.entry_tuple_add (PySem.F.args_tuple_add_2 _ _)
   (tuple_addW1 t b vs.toArray ws.toArray n n2 dd dd2 sl sl2 (by simpa using hv) (by simp [hw])) ⟨ho, ho2, h1 hw⟩
 ·refine concat_meets ⟨_, ho, rfl⟩ ⟨_, ho2, rfl⟩ noFill_tuple_add seq_tuple_add PySem.F.slot_tuple_add PySem.F.entry_tuple_add (PySem.F.args_tuple_add_2 _ _)
   (tuple_addW2 t b vs.toArray ws.toArray n n2 dd dd2 sl sl2 (by simpa using hv) (by simpa using hw) (by rw [List.size_toArray, List.size_toArray]; exact hsz)) ⟨ho, ho2, ?_⟩
  rw [e]
  exact h2 hw
def sIx (n d : Nat) : Option Int → Nat
 | none => d
 | some v => if v < 0 then (v + (n : Int)).toNat else min v.toNat n
theorem sIx_le (n d : Nat) (hd : d ≤ n) (o : Option Int) : sIx n d o ≤ n := by
 cases o with
 | none => exact hd
 | some v =>
  show (if v < 0 then (v + (n : Int)).toNat else min v.toNat n) ≤ n
  by_cases hv : v < 0
  ·rw [if_pos hv]; omega
  ·rw [if_neg hv]; exact Nat.min_le_right _ _
theorem clip_eq (v : Int) (n d : Nat) : (if v < 0 then max (v + (n : Int)) 0 else min v (n : Int)) = ((sIx n d (some v) : Nat) : Int) := by
 show (if v < 0 then max (v + (n : Int)) 0 else min v (n : Int)) = (((if v < 0 then (v + (n : Int)).toNat else min v.toNat n) : Nat) : Int)
 by_cases hv : v < 0
 ·simp only [if_pos hv]; omega
 ·simp only [if_neg hv]; omega
theorem adjust_gen (lo hi : Option Int) (n : Nat) : Builtin.Slice.sliceAdjust lo hi 1 (n : Int) = (((sIx n 0 lo : Nat) : Int), ((sIx n n hi : Nat) : Int)) := by
 have h1 : ¬ ((1 : Int) < 0) := by omega
 unfold Builtin.Slice.sliceAdjust
 simp only [h1, if_false]
 refine Prod.ext ?_ ?_
 ·cases lo with
  | none => rfl
  | some v => exact clip_eq v n 0
 ·cases hi with
  | none => rfl
  | some v => exact clip_eq v n n
theorem places_gen (i j : Nat) : Builtin.Slice.slicePlaces (i : Int) (j : Int) 1 = j - i := by
 unfold Builtin.Slice.slicePlaces
 have h1 : (1 : Int) > 0 := by omega
 simp only [h1, if_true, Int.ediv_one]
 split <;> omega
theorem slicePart_ {v : Value} {o : Option Int} {Q : Option Int → Shared → Prop} (p : IsPart v o) (h : Q o s) : wpAny (model prog w) A (Builtin.Slice.slicePartIndex v) Q E s := by
 cases p with
 | none => exact slicePart_none h
 | int i t => exact slicePart_int h
theorem sliceApplied_gen {sl : Addr} {vl vu : Value} {lo hi : Option Int} {n : Nat} {Q : Int × Int × Nat → Shared → Prop} (hs : s.heap.IsSliceOf sl vl vu .none) (pl : IsPart vl lo) (pu : IsPart vu hi)
 (h : Q (((sIx n 0 lo : Nat) : Int), 1, sIx n n hi - sIx n 0 lo) s) : wpAny (model prog w) A (Builtin.Slice.sliceApplied (.ref sl) (pure (n : Int))) Q E s := by
 obtain ⟨os, hos, hcs, hds⟩ := id hs
 unfold Builtin.Slice.sliceApplied Builtin.Slice.sliceFields
 refine wpAny_bind (wpAny_bind (wpAny_field hos hds (x := vl) rfl (wpAny_bind (wpAny_field hos hds (x := vu) rfl (wpAny_bind (wpAny_field hos hds (x := .none) rfl (wpAny_pure ?_)))))))
 refine wpAny_bind (slicePart_none ?_)
 show wpAny _ _ (if ((1 : Int) == 0) = true then _ else _) _ _ s
 rw [if_neg (by decide)]
 refine wpAny_bind (slicePart_ pl (wpAny_bind (slicePart_ pu (wpAny_bind (wpAny_pure ?_)))))
 show wpAny _ _ (match Builtin.Slice.sliceAdjust lo hi 1 (n : Int) with | (lo, hi) => pure (lo, (1 : Int), Builtin.Slice.slicePlaces lo hi 1)) _ _ s
 rw [adjust_gen lo hi n]
 show wpAny _ _ (pure (((sIx n 0 lo : Nat) : Int), (1 : Int), Builtin.Slice.slicePlaces ((sIx n 0 lo : Nat) : Int) ((sIx n n hi : Nat) : Int) 1)) _ _ s
 rw [places_gen]
 exact wpAny_pure h
theorem pick_gen (xs : Array Value) (i k : Nat) : ((List.range k).filterMap fun (m : Nat) => xs[((i : Int) + (m : Int) * 1).toNat]?).toArray = ((xs.toList.drop i).take k).toArray := by
 have e : (fun (m : Nat) => xs[((i : Int) + (m : Int) * 1).toNat]?) = fun m => xs[i + m]? := by
  funext m
  have : ((i : Int) + (m : Int) * 1).toNat = i + m := by omega
  rw [this]
 rw [e]
 have := pick_run xs i k
 rw [List.filterMap_map] at this
 have e2 : ((fun x => xs[x]?) ∘ fun x => i + x) = fun m => xs[i + m]? := rfl
 rw [e2] at this
 rw [this]
theorem getItem_tuple_cut {t sl : Addr} {items : Array Value} {vl vu : Value} {lo hi : Option Int} {Q : Value → Shared → Prop} (ht : IsTup s.heap t items) (hs : s.heap.IsSliceOf sl vl vu .none) (pl : IsPart vl lo) (pu : IsPart vu hi)
 (hw : ¬ (sIx items.size 0 lo = 0 ∧ sIx items.size items.size hi = items.size))
 (h : Q (.ref s.heap.objs.size) { s with heap := s.heap.push { cls := .type "tuple", data := .seq ((items.toList.drop (sIx items.size 0 lo)).take (sIx items.size items.size hi - sIx items.size 0 lo)).toArray } })
 (hsz : items.size ≤ sizeLine) : wpAny (model prog w) A (getItem (.ref t) (.ref sl)) Q E s := by
 have htake : sizeOk (.seq ((items.toList.drop (sIx items.size 0 lo)).take (sIx items.size items.size hi - sIx items.size 0 lo)).toArray) := by
  show ((items.toList.drop (sIx items.size 0 lo)).take (sIx items.size items.size hi - sIx items.size 0 lo)).toArray.size ≤ sizeLine
  rw [List.size_toArray, List.length_take, List.length_drop, Array.length_toList]
  omega
 have hj : sIx items.size items.size hi ≤ items.size := sIx_le _ _ (Nat.le_refl _) hi
 obtain ⟨os, hos, hcs, hds⟩ := id hs
 have hTs : s.TypeIs (.ref sl) "slice" := ⟨os, hos, hcs⟩
 unfold getItem
 try with_reducible refine wpAny_holding ?_
 first | refine wpAny_bind (wpAny_pure ?_) | skip
 refine wpAny_bind (wpAny_sequenceKey ht.typeIs (by decide) ?_)
 refine wpAny_bind (wpAny_callSpecial?_slot (name := Str.ofString "__getitem__") ht.typeIs PyProof.Rows.slot_tuple_getitem
  (wpAny_call_entry PyProof.Rows.slot_tuple_getitem ht.typeIs entry_tuple_getitem ?_ (args_tuple_getitem _ _)))
 show wpAny _ _ (Builtin.Tuple.tupleItemsOf (.ref t) >>= _) _ _ s
 refine wpAny_bind (tupleItemsOf_ ht ?_)
 refine wpAny_bind (wpAny_typeOf hTs ?_)
 rw [if_pos (by decide)]
 refine wpAny_bind (sliceApplied_gen hs pl pu ?_)
 have hno : ¬ ((((sIx items.size 0 lo : Nat) : Int) == 0 && (1 : Int) == 1 && (sIx items.size items.size hi - sIx items.size 0 lo) == items.size) = true) := by
  intro q
  rw [Bool.and_eq_true, Bool.and_eq_true] at q
  have q1 : ((sIx items.size 0 lo : Nat) : Int) = 0 := eq_of_beq q.1.1
  have q2 : sIx items.size items.size hi - sIx items.size 0 lo = items.size := eq_of_beq q.2
  exact hw ⟨by omega, by omega⟩
 show wpAny _ _ (if (((sIx items.size 0 lo : Nat) : Int) == 0 && (1 : Int) == 1 && (sIx items.size items.size hi - sIx items.size 0 lo) == items.size) = true then _ else _) _ _ s
 rw [if_neg hno, pick_gen]
 first
  | exact wpAny_bind (m := Builtin.Tuple.tupleExact _) (wpAny_newObj_type (wpAny_pure ⟨_, rfl, wpAny_pure h⟩) htake)
  | exact wpAny_bind (m := Builtin.Tuple.tupleExact _) (wpAny_newObj_type (wpAny_bind (wpAny_pure (wpAny_pure ⟨_, rfl, wpAny_pure h⟩))) htake)
  | exact wpAny_bind (wpAny_bind (m := Builtin.Tuple.tupleExact _) (wpAny_newObj_type (wpAny_pure (wpAny_pure ⟨_, rfl, wpAny_pure h⟩)) htake))
  | exact wpAny_bind (wpAny_bind (m := Builtin.Tuple.tupleExact _) (wpAny_newObj_type (wpAny_pure ⟨_, rfl, wpAny_pure h⟩) htake))
end
end HT
namespace L2
open PySem PySem.Spec PyProof.Rows
abbrev TO := St → Hp → (Option Int → Hp → Prop) → Prop
def PO (X : Cx) (e : Option Expr) (t : TO) : Prop :=
 ∀ (pins : List (Addr × Obj)) (s : Shared) (σ : St) (H : Hp) (Q : Option Int → Hp → Prop), Inv X pins σ H s → t σ H Q →
  wpAny (model X.prog X.w) X.A (evalPart e X.env) (fun u s' => ∃ o H', Inv X pins σ H' s' ∧ IsPart u o ∧ Q o H') X.xe s
def tNoPart : TO := fun _ H Q => Q none H
def tPart (t : TE) : TO := fun σ H Q => t σ H fun x H1 => ∃ i, x = .int i ∧ Q (some i) H1
theorem intsAre_of {ns : List Int} : ∀ {us : List Value}, Vals (ns.map V.int) us → IntsAre us ns := by
 induction ns with
 | nil => intro us r; rw [List.map_nil] at r; cases r; exact .nil
 | cons n ns ih =>
  intro us r
  rw [List.map_cons] at r
  cases r with
  | cons r1 r2 =>
   obtain ⟨t, e⟩ := r1
   subst e
   exact .cons n t (ih r2)
section
variable {X : Cx} {e : Expr} {te : TE} {lo hi : Option Expr} {tl th : TO} {pos p2 : Pos}
theorem po_none : PO X none tNoPart := by
 intro pins s σ H Q I h
 rw [evalPart_none]
 exact wpAny_pure ⟨none, H, I, .none, h⟩
theorem po_some (h : PE X e te) : PO X (some e) (tPart te) := by
 intro pins s σ H Q I hw
 rw [evalPart_some]
 refine thn (h pins s σ H _ I hw) fun u s1 ⟨x, H1, I1, r1, q1⟩ => ?_
 obtain ⟨i, rfl, q⟩ := q1
 obtain ⟨t, rfl⟩ := r1
 exact ⟨some i, H1, I1, .int i t, q⟩
def SlR (X : Cx) (r : V → Option Int → Option Int → Hp → VK → Prop) : Prop :=
 ∀ (pins : List (Addr × Obj)) (s : Shared) (σ : St) (H : Hp) (x : V) (v vl vu : Value) (lo hi : Option Int) (sl : Addr) (Q : VK), Inv X pins σ H s → RelV x v → s.heap.IsSliceOf sl vl vu .none → IsPart vl lo → IsPart vu hi → r x lo hi H Q →
  ∃ T id, typeLookup (.type T) "__getitem__" = pure (some (.builtin id)) ∧ s.TypeIs v T ∧ wpAny (model X.prog X.w) X.A (getItem v (.ref sl)) (EP X pins σ Q) X.xe s
def tSl (r : V → Option Int → Option Int → Hp → VK → Prop) (te : TE) (tl th : TO) : TE := fun σ H Q => te σ H fun x H1 => tl σ H1 fun l H2 => th σ H2 fun u H3 => r x l u H3 Q
theorem pe_slice {r : V → Option Int → Option Int → Hp → VK → Prop} (hr : SlR X r) (he : PE X e te) (hl : PO X lo tl) (hu : PO X hi th) : PE X (.Subscript e (.Slice lo hi none p2) pos) (tSl r te tl th) := by
 intro pins s σ H Q I h
 refine Subscript_ (thn (he pins s σ H _ I h) fun v s1 ⟨x, H1, I1, r1, q1⟩ => ?_)
 refine wpAny_Slice (thn (hl pins s1 σ H1 _ I1 q1) fun vl s2 ⟨l, H2, I2, pl, q2⟩ => thn (hu pins s2 σ H2 _ I2 q2) fun vu s3 ⟨u, H3, I3, pu, q3⟩ => ?_)
 rw [evalPart_none]
 refine wpAny_pure ?_
 have I4 : Inv X pins σ H3 { s3 with heap := s3.heap.push { cls := .type "slice", data := .fields #[vl, vu, .none] } } := I3.kept (t' := s3.toks) fun b ob q => Heap.get?_push_of_some _ q
 obtain ⟨T, id, hT, ht, hg⟩ := hr pins { s3 with heap := s3.heap.push { cls := .type "slice", data := .fields #[vl, vu, .none] } } σ H3 x v vl vu l u s3.heap.objs.size Q I4 r1 (Heap.IsSliceOf.new ..) pl pu q3
 show wpAny (model X.prog X.w) X.A (subscriptTail e (.Slice lo hi none p2) v (.ref s3.heap.objs.size)) (EP X pins σ Q) X.xe { s3 with heap := s3.heap.push { cls := .type "slice", data := .fields #[vl, vu, .none] } }
 exact tail_any (ops := [.ref s3.heap.objs.size, v]) ht hT hg (by with_unfolding_all rfl)
def cutV (xs : List V) (lo hi : Option Int) : List V := (xs.drop (HT.sIx xs.length 0 lo)).take (HT.sIx xs.length xs.length hi - HT.sIx xs.length 0 lo)
theorem cutV_length (xs : List V) (lo hi : Option Int) : (cutV xs lo hi).length ≤ xs.length := by
 unfold cutV
 rw [List.length_take, List.length_drop]
 omega
def rSlT (K : PySem.W.Frag) : V → Option Int → Option Int → Hp → VK → Prop := fun x lo hi H Q => ∃ a xs, x = .ref a ∧ SqT K H a xs ∧
 ¬ (HT.sIx xs.length 0 lo = 0 ∧ HT.sIx xs.length xs.length hi = xs.length) ∧ ∀ p, H p = none → Q (.ref p) (upd H p (.tup (cutV xs lo hi)))
theorem sl_tup : SlR X (rSlT X.K) := by
 intro pins s σ H x v vl vu lo hi sl Q I rx hs pl pu h
 obtain ⟨a, xs, rfl, hx, hw, q⟩ := h
 cases rx
 obtain ⟨its, r, ht, hz⟩ := I.tuple hx
 have hlen : its.toArray.size = xs.length := by rw [List.size_toArray]; exact r.length.symm
 refine ⟨"tuple", _, PyProof.Rows.slot_tuple_getitem.lookup, ht.typeIs, ?_⟩
 refine HT.getItem_tuple_cut ht hs pl pu (by rw [hlen]; exact hw) ?_ (by rw [hlen]; exact hz)
 rw [hlen]
 refine ⟨.ref s.heap.objs.size, _, I.laid (t' := s.toks) (o := .tup (cutV xs lo hi)) (fun b ob q => Heap.get?_push_of_some _ q) (Nat.le_refl _) ?_, rfl, q _ (I.hok.fresh (Nat.le_refl _))⟩
 exact ⟨Nat.le_trans (cutV_length xs lo hi) hz, _, (r.drop (HT.sIx xs.length 0 lo)).take (HT.sIx xs.length xs.length hi - HT.sIx xs.length 0 lo), IsTup.new _ _⟩
def rLtT (K : PySem.W.Frag) : R2 := fun x y H Q => ∃ a b ns ms, x = .ref a ∧ y = .ref b ∧ SqT K H a (ns.map V.int) ∧ SqT K H b (ms.map V.int) ∧ Q (.bl (HT.lexLt ns ms)) H
theorem op_ltT (hu : X.A.units < cLine) : OpR X (compareOp .Lt) (rLtT X.K) := by
 intro pins s σ H x y v u Q I rx ry h
 obtain ⟨a, b, ns, ms, rfl, rfl, ha, hb, q⟩ := h
 cases rx
 cases ry
 obtain ⟨its, r1, p1, _⟩ := I.tuple ha
 obtain ⟨its2, r2, p2, _⟩ := I.tuple hb
 have i1 : IntsAre its.toArray.toList ns := intsAre_of r1
 have i2 : IntsAre its2.toArray.toList ms := intsAre_of r2
 exact HT.lt_tupInts p1 p2 i1 i2 hu ⟨.bl (HT.lexLt ns ms), H, I, rfl, q⟩
def rCatT (K : PySem.W.Frag) : R2 := fun x y H Q => ∃ a b xs ys, x = .ref a ∧ y = .ref b ∧ SqT K H a xs ∧ SqT K H b ys ∧ xs ≠ [] ∧ xs.length + ys.length ≤ sizeLine ∧
 (ys = [] → Q (.ref a) H) ∧ (ys ≠ [] → ∀ p, H p = none → Q (.ref p) (upd H p (.tup (xs ++ ys))))
theorem Vals.nil_iff {xs : List V} {us : List Value} (r : Vals xs us) : us = [] ↔ xs = [] := by
 cases r with
 | nil => simp
 | cons _ _ => simp
theorem op_catT : OpR X (binaryOp .Add) (rCatT X.K) := by
 intro pins s σ H x y v u Q I rx ry h
 obtain ⟨a, b, xs, ys, rfl, rfl, ha, hb, hx, hz, q1, q2⟩ := h
 cases rx
 cases ry
 obtain ⟨its, r1, p1, _⟩ := I.tuple ha
 obtain ⟨its2, r2, p2, _⟩ := I.tuple hb
 refine HT.cat_tup p1 p2 (fun z => hx (r1.nil_iff.mp z)) (fun z => ⟨.ref a, H, I, rfl, q1 (r2.nil_iff.mp z)⟩) (fun z => ?_) (by rw [← r1.length, ← r2.length]; exact hz)
 refine ⟨.ref s.heap.objs.size, _, I.laid (t' := s.toks) (o := .tup (xs ++ ys)) (fun b ob q => Heap.get?_push_of_some _ q) (Nat.le_refl _) ?_, rfl, q2 (fun w => z (r2.nil_iff.mpr w)) _ (I.hok.fresh (Nat.le_refl _))⟩
 exact ⟨by rw [List.length_append]; exact hz, _, r1.append r2, IsTup.new _ _⟩
end
end L2
namespace L2
open PySem PySem.Spec PyProof.Rows
def ixN (n : Nat) (i : Int) : Option Nat := if 0 ≤ i then (if i < n then some i.toNat else none) else if -(n : Int) ≤ i then some (i + n).toNat else none
def atI {α : Type} (xs : List α) (i : Int) : Option α := (ixN xs.length i).bind fun j => xs[j]?
theorem ixN_seq {n : Nat} {i : Int} {j : Nat} (h : ixN n i = some j) : seqIndex? i n = some j ∧ j < n ∧ -(n : Int) ≤ i ∧ i < n := by
 unfold ixN at h
 by_cases h0 : 0 ≤ i
 ·rw [if_pos h0] at h
  by_cases h1 : i < n
  ·rw [if_pos h1] at h
   have e : i.toNat = j := Option.some.inj h
   exact ⟨by rw [seqIndex_of h0 h1, e], by omega, by omega, h1⟩
  ·rw [if_neg h1] at h; cases h
 ·rw [if_neg h0] at h
  by_cases h1 : -(n : Int) ≤ i
  ·rw [if_pos h1] at h
   have e : (i + n).toNat = j := Option.some.inj h
   exact ⟨by rw [seqIndex_neg (by omega) h1, e], by omega, h1, by omega⟩
  ·rw [if_neg h1] at h; cases h
theorem atI_get {α : Type} {xs : List α} {i : Int} {v : α} (h : atI xs i = some v) : ∃ j, seqIndex? i xs.length = some j ∧ xs[j]? = some v ∧ j < xs.length ∧ -(xs.length : Int) ≤ i ∧ i < xs.length := by
 unfold atI at h
 cases e : ixN xs.length i with
 | none => rw [e] at h; cases h
 | some j =>
  rw [e] at h
  obtain ⟨h1, h2, h3, h4⟩ := ixN_seq e
  exact ⟨j, h1, h, h2, h3, h4⟩
def PlainIx (b : Expr) : Prop := ∀ o i, subscripted b false o i = operate [o, i] (getItem o i)
def IxR (X : Cx) (r : R2) : Prop :=
 ∀ (value slice : Expr) (pins : List (Addr × Obj)) (s : Shared) (σ : St) (H : Hp) (x y : V) (v u : Value) (Q : VK), Inv X pins σ H s → RelV x v → RelV y u → r x y H Q →
  subscripted slice false v u = operate [v, u] (getItem v u) → wpAny (model X.prog X.w) X.A (subscriptTail value slice v u) (EP X pins σ Q) X.xe s
def MtR (X : Cx) (id : String) (r : V → List V → Hp → VK → Prop) : Prop :=
 ∀ (pins : List (Addr × Obj)) (s : Shared) (σ : St) (H : Hp) (x : V) (xs : List V) (v : Value) (us : List Value) (Q : VK), Inv X pins σ H s → RelV x v → Vals xs us → r x xs H Q →
  wpAny (model X.prog X.w) X.A (call (.builtin id) (v :: us)) (EP X pins σ Q) X.xe s
section
variable {X : Cx} {a b : Expr} {ta tb : TE} {pos : Pos}
theorem pe_ix {r : R2} (hr : IxR X r) (ha : PE X a ta) (hb : PE X b tb) (hs : PlainIx b) : PE X (.Subscript a b pos) (tOp r ta tb) := by
 intro pins s σ H Q I h
 exact Subscript_ (binT ha hb I h fun v u s2 x y H2 I2 rx ry q => hr a b pins s2 σ H2 x y v u Q I2 rx ry q (hs _ _))
def rIxL (K : PySem.W.Frag) : R2 := fun x y H Q => ∃ p xs i v, x = .ref p ∧ y = .int i ∧ SqL K H p xs ∧ atI xs i = some v ∧ Q v H
def rIxT (K : PySem.W.Frag) : R2 := fun x y H Q => ∃ p xs i v, x = .ref p ∧ y = .int i ∧ SqT K H p xs ∧ atI xs i = some v ∧ Q v H
def rIxS : R2 := fun x y H Q => ∃ z i c, x = .str z ∧ y = .int i ∧ z.length ≤ sizeLine ∧ atI z.cps.toList i = some c ∧ Q (.str ⟨#[c]⟩) H
theorem ix_list : IxR X (rIxL X.K) := by
 intro value slice pins s σ H x y v u Q I rx ry h hs
 obtain ⟨p, xs, i, z, rfl, rfl, hq, he, q⟩ := h
 cases rx
 obtain ⟨t, rfl⟩ := ry
 obtain ⟨its, r, pl, hz⟩ := I.list hq
 obtain ⟨j, h1, h2, h3, h4, h5⟩ := atI_get he
 obtain ⟨w, ew, rw'⟩ := r.get h2
 have hl := r.length
 have hn := line63
 have fin : EP X pins σ Q w s := ⟨z, H, I, rw', q⟩
 by_cases h0 : 0 ≤ i
 ·have hj : i.toNat = j := by
   rw [seqIndex_of h0 h5] at h1
   exact Option.some.inj h1
  exact item_listR pl.isList h0 (by omega) (by rw [hj]; simpa using ew) fin hs
 ·have hj : (i + (its.toArray.size : Int)).toNat = j := by
   rw [seqIndex_neg (by omega) h4] at h1
   rw [List.size_toArray, ← hl]
   exact Option.some.inj h1
  exact subscriptTail_builtinR (x := w) pl.isList.typeIs slot_list_getitem.lookup
   (wpAny_getItem_list_neg (Q := fun r s' => r = w ∧ EP X pins σ Q r s') pl.isList (by omega) (by rw [List.size_toArray] <;> omega) (by omega) (by rw [hj]; simpa using ew) ⟨rfl, fin⟩) hs
theorem ix_tup : IxR X (rIxT X.K) := by
 intro value slice pins s σ H x y v u Q I rx ry h hs
 obtain ⟨p, xs, i, z, rfl, rfl, hq, he, q⟩ := h
 cases rx
 obtain ⟨t, rfl⟩ := ry
 obtain ⟨its, r, pl, hz⟩ := I.tuple hq
 obtain ⟨j, h1, h2, h3, h4, h5⟩ := atI_get he
 obtain ⟨w, ew, rw'⟩ := r.get h2
 have hl := r.length
 have hn := line63
 have fin : EP X pins σ Q w s := ⟨z, H, I, rw', q⟩
 exact subscriptTail_builtinR (x := w) pl.typeIs slot_tuple_getitem.lookup
  (getItem_tuple (j := j) (Q := fun r s' => r = w ∧ EP X pins σ Q r s') pl (by omega) (by omega) (by rw [List.size_toArray, ← hl]; exact h1) (by simpa using ew) ⟨rfl, fin⟩) hs
theorem ix_str : IxR X rIxS := by
 intro value slice pins s σ H x y v u Q I rx ry h hs
 obtain ⟨z, i, c, rfl, rfl, hz, he, q⟩ := h
 obtain ⟨t, rfl⟩ := rx
 obtain ⟨t', rfl⟩ := ry
 obtain ⟨j, h1, h2, h3, h4, h5⟩ := atI_get he
 have hl : z.cps.toList.length = z.length := by simp [Str.length]
 rw [hl] at h1 h4 h5
 have hn := line63
 exact tail_any (typeIs_str s z t) slot_str_getitem.lookup (getItem_str (c := c) (by
  have e1 : decide (i < -(2 ^ 63 : Int)) = false := decide_eq_false (by omega)
  have e2 : decide (i ≥ 2 ^ 63) = false := decide_eq_false (by omega)
  rw [e1, e2, Bool.or_false]) (by rw [h1]; simpa using h2) ⟨.str ⟨#[c]⟩, H, I.tok _, ⟨_, rfl⟩, q⟩) hs
theorem mapSeq_set (its : List Value) (n j : Nat) (u : Value) : Obj.mapSeq (·.setIfInBounds j u) { cls := .type "list", data := .seq its.toArray n } = { cls := .type "list", data := .seq (its.set j u).toArray n } := by
 simp [Obj.mapSeq]
theorem Inv.lst {pins : List (Addr × Obj)} {σ : St} {H : Hp} {s : Shared} {p : Addr} {xs : List V} (I : Inv X pins σ H s) (h : H p = some (.lst xs)) :
 ∃ (its : List Value) (n : Nat), Vals xs its ∧ s.heap.get? p = some { cls := .type "list", data := .seq its.toArray n } ∧ xs.length ≤ sizeLine := by
 obtain ⟨z, its, n, r, e⟩ := I.hok p _ h
 exact ⟨its, n, r, e, z⟩
theorem Inv.lstUpd {pins : List (Addr × Obj)} {σ : St} {H : Hp} {s : Shared} {p : Addr} {xs ys : List V} {its its' : List Value} {n n' : Nat} {f : Obj → Obj} (I : Inv X pins σ H s) (h : H p = some (.lst xs))
 (ho : s.heap.get? p = some { cls := .type "list", data := .seq its.toArray n }) (hf : f { cls := .type "list", data := .seq its.toArray n } = { cls := .type "list", data := .seq its'.toArray n' }) (r : Vals ys its') (hz : ys.length ≤ sizeLine) (t : Nat) :
 Inv X pins σ (upd H p (.lst ys)) { s with heap := s.heap.update p f, toks := t } := by
 have e : (s.heap.update p f).get? p = some { cls := .type "list", data := .seq its'.toArray n' } := by
  rw [Heap.get?_update_self f ho (by rw [hf] <;> rfl), hf]
 refine I.write (x := p) (e := p) (by rw [h]; trivial) (.inl rfl) (fun b u hb q => (Heap.get?_update_other _ _ (Ne.symm hb)).trans q) ⟨_, e⟩ ?_
 exact ⟨hz, its', n', r, e⟩
def rSetL : V → V → V → Hp → (Hp → Prop) → Prop := fun o i v H Q => ∃ p xs k j, o = .ref p ∧ i = .int k ∧ H p = some (.lst xs) ∧ ixN xs.length k = some j ∧ Q (upd H p (.lst (xs.set j v)))
theorem set_list : PSet X rSetL := by
 intro pins s σ H o i v ov iv u Q I ro ri rv h
 obtain ⟨p, xs, k, j, rfl, rfl, hp, hj, q⟩ := h
 cases ro
 obtain ⟨t, rfl⟩ := ri
 obtain ⟨its, n, r, ho, hz⟩ := I.lst hp
 obtain ⟨h1, h2, h3, h4⟩ := ixN_seq hj
 have hl := r.length
 have hn := line63
 have I' : Inv X pins σ (upd H p (.lst (xs.set j v))) { s with heap := s.heap.update p (Obj.mapSeq (·.setIfInBounds j u)) } :=
  I.lstUpd hp ho (mapSeq_set its n j u) (r.set rv j) (by rw [List.length_set]; exact hz) s.toks
 by_cases h0 : 0 ≤ k
 ·have hk : k.toNat = j := by
   rw [seqIndex_of h0 h4] at h1
   exact Option.some.inj h1
  exact PySem.W.ki_setAt ho h0 (by omega) (by rw [List.size_toArray, ← hl]; exact h4) (by rw [hk]; exact ⟨_, I', q⟩)
 ·have hk : (k + (its.toArray.size : Int)).toNat = j := by
   rw [seqIndex_neg (by omega) h3] at h1
   rw [List.size_toArray, ← hl]
   exact Option.some.inj h1
  exact PySem.W.ki_setBack ho (by omega) (by rw [List.size_toArray, ← hl]; exact h3) (by omega) (by rw [hk]; exact ⟨_, I', q⟩)
theorem slice_bounds (lo hi : Option Int) (n : Nat) : (sliceBounds lo hi none n).1 = ((HT.sIx n 0 lo : Nat) : Int) ∧ (sliceBounds lo hi none n).2.1 = ((HT.sIx n n hi : Nat) : Int) ∧ (sliceBounds lo hi none n).2.2 = 1 := by
 refine ⟨?_, ?_, rfl⟩
 ·cases lo with
  | none => simp [sliceBounds, HT.sIx]
  | some i =>
   simp only [sliceBounds, HT.sIx, Option.getD_none, show (1 : Int) > 0 by decide, if_true]
   by_cases h : i < 0
   ·simp only [h, if_true] <;> omega
   ·simp only [h, if_false] <;> omega
 ·cases hi with
  | none => simp [sliceBounds, HT.sIx]
  | some i =>
   simp only [sliceBounds, HT.sIx, Option.getD_none, show (1 : Int) > 0 by decide, if_true]
   by_cases h : i < 0
   ·simp only [h, if_true] <;> omega
   ·simp only [h, if_false] <;> omega
theorem slicePick_cut (its : List Value) (lo hi : Option Int) : slicePick its.toArray lo hi none = ((its.drop (HT.sIx its.length 0 lo)).take (HT.sIx its.length its.length hi - HT.sIx its.length 0 lo)).toArray := by
 obtain ⟨h1, h2, h3⟩ := slice_bounds lo hi its.toArray.size
 unfold slicePick
 rw [h1, h2, h3]
 simp only [sliceRange_one, pick_run, List.size_toArray] <;> rfl
def rSlL (K : PySem.W.Frag) : V → Option Int → Option Int → Hp → VK → Prop := fun x lo hi H Q => ∃ a xs, x = .ref a ∧ SqL K H a xs ∧ ∀ p, H p = none → Q (.ref p) (upd H p (.lst (cutV xs lo hi)))
theorem sl_list : SlR X (rSlL X.K) := by
 intro pins s σ H x v vl vu lo hi sl Q I rx hs pl pu h
 obtain ⟨a, xs, rfl, hx, q⟩ := h
 cases rx
 obtain ⟨its, r, ht, hz⟩ := I.list hx
 have hlen := r.length
 refine ⟨"list", _, slot_list_getitem.lookup, ht.isList.typeIs, ?_⟩
 refine wpAny_getItem_list_slice ht.isList hs pl pu .none (by simp) ?_ (by rw [List.size_toArray] <;> omega)
 rw [slicePick_cut, ← hlen]
 refine ⟨.ref s.heap.objs.size, _, I.laid (t' := s.toks) (o := .lst (cutV xs lo hi)) (fun b ob q => Heap.get?_push_of_some _ q) (Nat.le_refl _) ?_, rfl, q _ (I.hok.fresh (Nat.le_refl _))⟩
 exact ⟨Nat.le_trans (cutV_length xs lo hi) hz, _, 0, (r.drop (HT.sIx xs.length 0 lo)).take (HT.sIx xs.length xs.length hi - HT.sIx xs.length 0 lo), Heap.get?_push_size _ rfl⟩
theorem call_len_seq : CallR X (.builtin "len") (fun xs H Q => ∃ p ys, xs = [.ref p] ∧ (SqL X.K H p ys ∨ SqT X.K H p ys) ∧ Q (.int ys.length) H) := by
 intro pins s σ H xs us Q I r h
 obtain ⟨p, ys, rfl, hq, q⟩ := h
 obtain ⟨u, rfl, rx⟩ := vals1 r
 cases rx
 have hn := line63
 rcases hq with hq | hq
 ·obtain ⟨its, r', pl, hz⟩ := I.list hq
  have hlen := r'.length
  exact Calls.call_len_list pl.isList (by simp only [List.size_toArray] <;> omega) ⟨.int ys.length, H, I.tok _, ⟨s.toks + 1, by rw [List.size_toArray, hlen]⟩, q⟩
 ·obtain ⟨its, r', pl, hz⟩ := I.tuple hq
  have hlen := r'.length
  exact len_tuple pl (by simp only [List.size_toArray] <;> omega) ⟨.int ys.length, H, I.tok _, ⟨s.toks + 1, by rw [List.size_toArray, hlen]⟩, q⟩
theorem call_len_str : CallR X (.builtin "len") (fun xs H Q => ∃ z, xs = [.str z] ∧ z.length ≤ sizeLine ∧ Q (.int z.length) H) := by
 intro pins s σ H xs us Q I r h
 obtain ⟨z, rfl, hz, q⟩ := h
 obtain ⟨u, rfl, t, rfl⟩ := vals1 r
 have hn := line63
 exact len_str (by omega) ⟨.int z.length, H, I.tok _, ⟨_, rfl⟩, q⟩
theorem call_list_of : CallR X (.type "list") (fun xs H Q => ∃ p ys, xs = [.ref p] ∧ (SqL X.K H p ys ∨ SqT X.K H p ys) ∧ ∀ l, H l = none → Q (.ref l) (upd H l (.lst ys))) := by
 intro pins s σ H xs us Q I r h
 obtain ⟨p, ys, rfl, hq, q⟩ := h
 obtain ⟨u, rfl, rx⟩ := vals1 r
 cases rx
 have fin : ∀ (its : List Value), Vals ys its → ys.length ≤ sizeLine → ∀ (h' : Heap) (c' : Nat), (∀ b o', s.heap.get? b = some o' → h'.get? b = some o') →
  h'.get? s.heap.objs.size = some { cls := .type "list", dict := none, data := .seq its.toArray c', slots := #[] } → EP X pins σ Q (.ref s.heap.objs.size) { s with heap := h' } := fun its r' hz h' c' kp e =>
  ⟨.ref s.heap.objs.size, _, I.laid (t' := s.toks) kp (Nat.le_refl _) (show ObjOk X.prog X.w _ h' _ (.lst ys) from ⟨hz, its, c', r', e⟩), rfl, q _ (I.hok.fresh (Nat.le_refl _))⟩
 rcases hq with hq | hq
 ·obtain ⟨its, r', pl, hz⟩ := I.list hq
  have hlen := r'.length
  obtain ⟨o, ho, hc, n, hd⟩ := pl.isList
  exact call_list_seq p (.inl rfl) ho hc hd (fun h' c' kp e => fin its r' hz h' c' kp e) (by simp only [List.size_toArray] <;> omega)
 ·obtain ⟨its, r', pl, hz⟩ := I.tuple hq
  have hlen := r'.length
  obtain ⟨o, ho, hc, n, hd⟩ := pl
  exact call_list_seq p (.inr rfl) ho hc hd (fun h' c' kp e => fin its r' hz h' c' kp e) (by simp only [List.size_toArray] <;> omega)
theorem call_tuple_of : CallR X (.type "tuple") (fun xs H Q => ∃ p ys, xs = [.ref p] ∧ ((SqL X.K H p ys ∧ ∀ l, H l = none → Q (.ref l) (upd H l (.tup ys))) ∨ (SqT X.K H p ys ∧ Q (.ref p) H))) := by
 intro pins s σ H xs us Q I r h
 obtain ⟨p, ys, rfl, h⟩ := h
 obtain ⟨u, rfl, rx⟩ := vals1 r
 cases rx
 rcases h with ⟨hq, q⟩ | ⟨hq, q⟩
 ·obtain ⟨its, r', pl, hz⟩ := I.list hq
  have hlen := r'.length
  refine call_tuple_list pl.isList (fun h' kp => ?_) (by simp only [List.size_toArray] <;> omega)
  have I1 : Inv X pins σ H { s with heap := h' } := I.kept (t' := s.toks) kp
  have I2 : Inv X pins σ (upd H h'.objs.size (.tup ys)) { s with heap := h'.push { cls := .type "tuple", data := .seq its.toArray } } :=
   I1.laid (t' := s.toks) (fun b o e => Heap.get?_push_of_some _ e) (Nat.le_refl _) (show ObjOk X.prog X.w _ _ _ (.tup ys) from ⟨hz, its, r', IsTup.new _ _⟩)
  exact ⟨.ref h'.objs.size, _, I2, rfl, q _ (I1.hok.fresh (Nat.le_refl _))⟩
 ·obtain ⟨its, r', pl, hz⟩ := I.tuple hq
  exact call_tuple_same pl ⟨.ref p, H, I, rfl, q⟩
def tyV (K : PySem.W.Frag) (T : String) (x : V) (H : Hp) : Prop := match x with
 | .str _ => T = "str"
 | .int _ => T = "int"
 | .ref p => (T = "list" ∧ ∃ xs, SqL K H p xs) ∨ (T = "tuple" ∧ ∃ o, K.lookup p = some o ∧ o.cls = .type "tuple" ∧ o.dict = none) ∨
  (T = "dict" ∧ ((∃ kvs, H p = some (.dK kvs)) ∨ ∃ kvs, H p = some (.dT kvs))) ∨ (T = "set" ∧ ∃ S n, H p = some (.set S n))
 | _ => False
theorem tyV_is {pins : List (Addr × Obj)} {σ : St} {H : Hp} {s : Shared} {T : String} {x : V} {v : Value} (I : Inv X pins σ H s) (r : RelV x v) (ty : tyV X.K T x H) :
 s.TypeIs v T ∧ ∀ a, v = .ref a → ∃ ob, s.heap.get? a = some ob ∧ ob.dict = none := by
 cases x with
 | str z =>
  obtain ⟨t, rfl⟩ := r
  cases (show T = "str" from ty)
  exact ⟨typeIs_str s z t, fun _ e => nomatch e⟩
 | int i =>
  obtain ⟨t, rfl⟩ := r
  cases (show T = "int" from ty)
  exact ⟨typeIs_int s i t, fun _ e => nomatch e⟩
 | ref p =>
  cases r
  rcases ty with ⟨rfl, xs, hq⟩ | ⟨rfl, o, hk, hc, hd⟩ | ⟨rfl, hk⟩ | ⟨rfl, S, n, hk⟩
  ·obtain ⟨its, _, pl, _⟩ := I.list hq
   refine ⟨pl.isList.typeIs, fun a e => ?_⟩
   cases e
   obtain ⟨o, n, e, c, hd, _⟩ := pl
   exact ⟨o, e, hd⟩
  ·refine ⟨⟨o, I.kIn p o hk, hc⟩, fun a e => ?_⟩
   cases e
   exact ⟨o, I.kIn _ o hk, hd⟩
  ·have z : ∃ o, s.heap.get? p = some o ∧ o.ExactDict := by
    rcases hk with ⟨kvs, hk⟩ | ⟨kvs, hk⟩
    ·obtain ⟨_, _, _, _, o, _, _, e, ex, _⟩ := I.hok p _ hk
     exact ⟨o, e, ex⟩
    ·obtain ⟨_, _, _, _, o, _, _, e, ex, _⟩ := I.hok p _ hk
     exact ⟨o, e, ex⟩
   obtain ⟨o, e, ex⟩ := z
   refine ⟨⟨o, e, ex.1⟩, fun a e2 => ?_⟩
   cases e2
   exact ⟨o, e, ex.2.1⟩
  ·obtain ⟨o, _, _, _, e, ex, _⟩ := I.hok p _ hk
   refine ⟨⟨o, e, ex.1⟩, fun a e2 => ?_⟩
   cases e2
   exact ⟨o, e, ex.2.1⟩
 | _ => exact False.elim ty
def tBM0 (K : PySem.W.Frag) (T : String) (r : V → List V → Hp → VK → Prop) (to : TE) : TE := fun σ H Q => to σ H fun x H1 => tyV K T x H1 ∧ r x [] H1 Q
def tBM (K : PySem.W.Frag) (T : String) (r : V → List V → Hp → VK → Prop) (to : TE) (t : TA) : TE := fun σ H Q => to σ H fun x H1 => tyV K T x H1 ∧ t σ H1 fun xs H2 => r x xs H2 Q
variable {o e : Expr} {es : List Expr} {to : TE} {t : TA} {name : Str} {apos cpos : Pos} {T id : String} {r : V → List V → Hp → VK → Prop}
theorem pe_bm0 (pa : PlainAttrs T) (slot : Slot T name id) (hty : typeOf (.builtin id) = pure (.type "method_descriptor")) (hm : MtR X id r) (ho : PE X o to)
 (hbase : attributeBase o name X.env (eval o X.env) = eval o X.env := by rfl) (hline : (apos.endLine == cpos.line) = true := by rfl) : PE X (.Call (.Attribute o name apos) [] [] cpos) (tBM0 X.K T r to) := by
 intro pins s σ H Q I h
 refine wpAny_Call_method0_late hbase hline (thn (ho pins s σ H _ I h) fun v s1 ⟨x, H1, I1, r1, ty, q1⟩ => ?_)
 obtain ⟨h1, h2⟩ := tyV_is I1 r1 ty
 exact ⟨T, id, pa, slot, hty, h1, h2, Calls.callWith_builtin rfl (PySem.evalArgs_none (hm pins s1 σ H1 x [] v [] Q I1 r1 .nil q1))⟩
theorem pe_bm (pa : PlainAttrs T) (slot : Slot T name id) (hty : typeOf (.builtin id) = pure (.type "method_descriptor")) (hm : MtR X id r) (ho : PE X o to) (ha : PA X (e :: es) t)
 (hbase : attributeBase o name X.env (eval o X.env) = eval o X.env := by rfl)
 (hfew : ((backTo cpos (starEach (e :: es) X.env)).all (fun x => !x.1) && (backToKw cpos (keywordEach [] X.env)).all (fun x => x.1.isSome)
  && decide ((e :: es).length + ([] : List Keyword).length + (if ([] : List Keyword).isEmpty then 0 else 1) < 30)) = true := by rfl)
 (hline : (apos.endLine == cpos.line) = true := by rfl) (hs : starEach (e :: es) X.env = (false, eval e X.env) :: starEach es X.env := by rfl) (hplain : (backTo cpos (starEach es X.env)).any (·.1) = false := by rfl) :
 PE X (.Call (.Attribute o name apos) (e :: es) [] cpos) (tBM X.K T r to t) := by
 intro pins s σ H Q I h
 refine wpAny_Call_method_late hbase hfew hline rfl (thn (ho pins s σ H _ I h) fun v s1 ⟨x, H1, I1, r1, ty, q1⟩ => ?_)
 obtain ⟨h1, h2⟩ := tyV_is I1 r1 ty
 refine ⟨T, id, pa, slot, hty, h1, h2, ?_⟩
 have hA := ha cpos pins s1 σ H1 _ I1 q1
 rw [hs] at hA ⊢
 refine Calls.callWith_builtin (by show (false || (backTo cpos (starEach es X.env)).any (·.1)) = false; rw [hplain] <;> rfl) (Calls.evalArgs_plain ?_)
 exact thn hA fun us s2 ⟨vs, H2, I2, r2, q2⟩ => hm pins s2 σ H2 x vs v us Q I2 r1 r2 q2
end
end L2
namespace L2
open PySem PySem.Spec PyProof.Rows
def MtM (X : Cx) (id : String) (r : V → List V → Hp → VK → Prop) : Prop :=
 ∀ (pins : List (Addr × Obj)) (s : Shared) (σ : St) (H : Hp) (x : V) (xs : List V) (v : Value) (us : List Value) (Q : VK), Inv X pins σ H s → RelV x v → Vals xs us → r x xs H Q →
  wpAny (model X.prog X.w) X.A (call (.builtin id) (v :: us)) (EP X pins σ Q) X.xe s
theorem Vals.one : ∀ {x : V} {us : List Value}, Vals [x] us → ∃ u, us = [u] ∧ RelV x u
 | _, _, .cons r .nil => ⟨_, rfl, r⟩
theorem Vals.two : ∀ {x y : V} {us : List Value}, Vals [x, y] us → ∃ u v, us = [u, v] ∧ RelV x u ∧ RelV y v
 | _, _, _, .cons r (.cons q .nil) => ⟨_, _, rfl, r, q⟩
theorem Vals.zero : ∀ {us : List Value}, Vals [] us → us = []
 | _, .nil => rfl
theorem Vals.dropLast {xs : List V} {us : List Value} (h : Vals xs us) : Vals xs.dropLast us.dropLast := by
 induction h with
 | nil => exact .nil
 | cons r t ih =>
  cases t with
  | nil => exact .nil
  | cons q t' => exact .cons r ih
theorem Vals.rep {xs : List V} {us : List Value} (h : Vals xs us) : ∀ k : Nat, Vals (List.replicate k xs).flatten (List.replicate k us).flatten
 | 0 => .nil
 | k + 1 => by
  rw [List.replicate_succ, List.replicate_succ, List.flatten_cons, List.flatten_cons]
  exact Vals.append h (Vals.rep h k)
theorem erase_last {α : Type} (l : List α) : l.eraseIdx (l.length - 1) = l.dropLast := by
 induction l with
 | nil => rfl
 | cons a r ih =>
  cases r with
  | nil => rfl
  | cons b r =>
   have e : (a :: b :: r).length - 1 = ((b :: r).length - 1) + 1 := by
    have h1 : (a :: b :: r).length = r.length + 2 := rfl
    have h2 : (b :: r).length = r.length + 1 := rfl
    omega
   rw [e, List.eraseIdx_cons_succ, ih]
   all_goals rfl
theorem foldl_rep (its : List Value) : ∀ (k : Nat) (acc : List Value),
 List.foldl (fun x1 x2 => x1 ++ x2) acc.toArray (List.replicate k its.toArray) = (acc ++ (List.replicate k its).flatten).toArray
 | 0, acc => by simp
 | k + 1, acc => by
  have e : acc.toArray ++ its.toArray = (acc ++ its).toArray := by simp
  have e2 : (acc ++ its) ++ (List.replicate k its).flatten = acc ++ (List.replicate (k + 1) its).flatten := by
   rw [List.replicate_succ, List.flatten_cons, List.append_assoc]
  rw [← e2, ← foldl_rep its k (acc ++ its), ← e, List.replicate_succ, List.foldl_cons]
section
variable {X : Cx} {pins : List (Addr × Obj)} {σ : St} {H : Hp} {s : Shared} {l b : Addr} {xs ys zs : List V}
theorem Inv.lset {its its' : List Value} {n : Nat} {f : Array Value → Array Value} {t' : Nat} (I : Inv X pins σ H s) (hH : H l = some (.lst xs))
 (e : s.heap.get? l = some { cls := .type "list", data := .seq its.toArray n }) (hf : f its.toArray = its'.toArray) (hv : Vals ys its') (hz : ys.length ≤ sizeLine) :
 Inv X pins σ (upd H l (.lst ys)) { s with heap := s.heap.update l (Obj.mapSeq f), toks := t' } := by
 have q := PySem.IsL.update e f
 rw [hf] at q
 refine I.write (x := l) (e := l) (by rw [hH]; exact trivial) (.inl rfl) (fun b' u hb hu => (Heap.get?_update_other s.heap (Obj.mapSeq f) (Ne.symm hb)).trans hu) ⟨_, q⟩ ?_
 exact ⟨hz, its', _, hv, q⟩
theorem Inv.lnew {its : List Value} {t' : Nat} (I : Inv X pins σ H s) (hv : Vals ys its) (hz : ys.length ≤ sizeLine) :
 Inv X pins σ (upd H s.heap.objs.size (.lst ys)) { s with heap := s.heap.push { cls := .type "list", data := .seq its.toArray }, toks := t' } :=
 I.laid (fun _ _ q => Heap.get?_push_of_some _ q) (Nat.le_refl _) ⟨hz, its, 0, hv, Heap.get?_push_size _ rfl⟩
theorem Inv.fresh (I : Inv X pins σ H s) : H s.heap.objs.size = none := I.hok.fresh (Nat.le_refl _)
theorem Inv.lstM (I : Inv X pins σ H s) (hH : H l = some (.lst xs)) : xs.length ≤ sizeLine ∧ ∃ (its : List Value) (n : Nat), Vals xs its ∧ xs.length = its.length ∧ s.heap.get? l = some { cls := .type "list", data := .seq its.toArray n } := by
 obtain ⟨z, its, n, r, e⟩ := I.hok l _ hH
 exact ⟨z, its, n, r, r.length, e⟩
theorem notLongL {n : Nat} (h : n ≤ sizeLine) : Builtin.List.listTooLong n = false := by
 unfold Builtin.List.listTooLong
 exact decide_eq_false (by omega)
end
section
variable {X : Cx}
def rAppend : V → List V → Hp → VK → Prop := fun x vs H Q => ∃ l xs y, x = .ref l ∧ vs = [y] ∧ H l = some (.lst xs) ∧ xs.length < sizeLine ∧ Q .non (upd H l (.lst (xs ++ [y])))
theorem mt_append : MtM X "list.append" rAppend := by
 intro pins s σ H x vs v us Q I rx rv h
 obtain ⟨l, xs, y, rfl, rfl, hH, hz, q⟩ := h
 cases rx
 obtain ⟨u, rfl, ru⟩ := rv.one
 obtain ⟨z, its, n, r, hl, e⟩ := I.lstM hH
 refine call_meets F.slot_list_append ⟨_, e, rfl⟩ F.entry_list_append (F.args_list_append_2 _ _) (PySem.list_append l its.toArray n u (by rw [List.size_toArray]; omega)) ⟨e, ?_⟩
 refine ⟨.non, _, I.lset (its' := its ++ [u]) hH e (by simp) (r.append (.cons ru .nil)) ?_, rfl, q⟩
 rw [List.length_append, List.length_singleton]
 omega
def rPop : V → List V → Hp → VK → Prop := fun x vs H Q => ∃ l xs y, x = .ref l ∧ vs = [] ∧ H l = some (.lst xs) ∧ xs[xs.length - 1]? = some y ∧ Q y (upd H l (.lst xs.dropLast))
theorem mt_pop : MtM X "list.pop" rPop := by
 intro pins s σ H x vs v us Q I rx rv h
 obtain ⟨l, xs, y, rfl, rfl, hH, hy, q⟩ := h
 cases rx
 have hus := rv.zero
 subst hus
 obtain ⟨z, its, n, r, hl, e⟩ := I.lstM hH
 obtain ⟨u, hu, ru⟩ := r.get hy
 have hy' : its.toArray[its.toArray.size - 1]? = some u := by
  show its.toArray[its.length - 1]? = some u
  rw [← Array.getElem?_toList, ← hl]
  exact hu
 refine call_meets F.slot_list_pop ⟨_, e, rfl⟩ F.entry_list_pop (F.args_list_pop_1 _) (MeetsSeq.list_pop_last l its.toArray n u hy' (by rw [List.size_toArray]; omega)) ⟨e, ?_⟩
 refine ⟨y, _, I.lset (its' := its.dropLast) hH e ?_ r.dropLast ?_, ru, q⟩
 ·show its.toArray.eraseIdxIfInBounds (its.toArray.size - 1) = its.dropLast.toArray
  rw [List.size_toArray, List.eraseIdxIfInBounds_toArray, erase_last]
 ·rw [List.length_dropLast]
  omega
theorem len_rep {α : Type} (xs : List α) (k : Nat) : (List.replicate k xs).flatten.length = k * xs.length := by
 induction k with
 | zero => simp
 | succ k ih => rw [List.replicate_succ, List.flatten_cons, List.length_append, ih, Nat.succ_mul, Nat.add_comm]
end
section
variable {prog : Program} {w : World} {A : Around} {E : Value → Shared → Prop} {s : Shared}
end
section
variable {X : Cx}
end
end L2
namespace Att
open PySem PySem.W PySem.Calls PyProof.Rows
theorem ints_of_wellAll {P : Params} {h : Heap} : ∀ (ns : List Int) (vs : List Value), WellAll P h vs (ns.map WData.int) → IntsAre vs ns := by
 intro ns
 induction ns with
 | nil =>
  intro vs w
  rw [List.map_nil] at w
  cases w
  exact .nil
 | cons n ns ih =>
  intro vs w
  rw [List.map_cons] at w
  cases w with
  | cons a b =>
   cases a
   exact .cons _ _ (ih _ b)
theorem script_of {l : OpenLaw} {n : Nat} (hn : l.most = some n) {P : Params} {h : Heap} {args : List WData} {vals : List Value}
 (hpre : l.row.toRowW.claim.pre args = true) (hwl : WellAll P h vals args) :
 ∃ a vs ns, vals = [Value.ref a] ∧ args = [WData.list (ns.map WData.int)] ∧ h.get? a = some { cls := .type "list", data := .seq vs.toArray } ∧ IntsAre vs ns ∧ ns.length ≤ n := by
 have hsh : WShape.hasAll [] args [.list .int] = true := (pre_splitW hpre).1
 have hc : l.pre.holds [] { args := args } = true := (pre_splitW hpre).2
 obtain ⟨d, r, rfl, h1, h2⟩ := hasAllW_cons hsh
 obtain rfl := hasAllW_nil h2
 obtain ⟨xs, rfl, h3⟩ := hasW_list h1
 obtain ⟨ns, rfl⟩ := items_int h3
 have hlen : ns.length ≤ n := by
  unfold OpenLaw.pre at hc
  have h4 : (WTm.not (.lt (.lit (.int (n : Int))) (.len (.arg 0)))).holds [] { args := [.list (ns.map .int)] } = true := by
   have h4 := (holds_andW hc).1
   rw [hn] at h4
   exact h4
  have h5 := condW_of h4 (w_not (w_lt w_lit (w_len_list (w_arg rfl))))
  rw [List.length_map] at h5
  refine Nat.le_of_not_lt fun q => ?_
  have q' : (n : Int) < ((ns.length : Nat) : Int) := by omega
  first
   | (rw [decide_eq_true q'] at h5; exact absurd h5 (by decide))
   | (simp at h5; omega)
 cases hwl with
 | cons w1 w2 =>
  cases w2
  cases w1 with
  | list ho hall => exact ⟨_, _, ns, rfl, rfl, ho, ints_of_wellAll ns _ hall, hlen⟩
theorem post_true (l : OpenLaw) (args : List WData) : l.row.toRowW.claim.post args (.bool true) args = true :=
 postW_of (r := l.row.toRowW) (X := (true == true))
  (show WShape.has [] (.bool true) .bool = true by first | rfl | decide | simp [WShape.has, WShape.arms, WShape.armsAll])
  (show (WTm.eq .res (.lit (.bool true))).value [] { args := args, res := some (.bool true), after := args } = some (.bool (true == true)) from w_eq_bool (w_res rfl) w_lit) rfl
theorem attach_call {l : OpenLaw} {n : Nat} {q : Program} {loose : List Str} {XP : (Str → Option Value) → Heap → Prop} {YP : World → Heap → Prop} {d : DefRec}
 (hn : l.most = some n) (hdf : d.params.defaults = [])
 (call : ∀ (w : World) (s₀ s₁ : Shared) (mg mb : Str → Option Value) (fa : Addr) (o : Obj) (pm cd doc : Value) (a : Addr) (vs : List Value) (ns : List Int),
  Ground q loose [] XP w s₀ mg mb s₁.heap → YP w s₁.heap →
  s₁.heap.get? fa = some o → o.data = .func (docDef d.name d.params d.body d.scope pm cd doc) → s₁.heap.CodeRec cd d.name → mg d.name = some (.ref fa) →
  s₁.heap.get? a = some { cls := .type "list", data := .seq vs.toArray } → IntsAre vs ns → ns.length ≤ n → s₁.gens = #[] →
  codeAny (model l.prog w) callerA (.call (.ref fa) ⟨[.ref a], []⟩) (fun r s' => r = .ok (.ret (.bool true)) ∧ OldK s₁.heap s'.heap ∧ s'.os = s₁.os ∧ AllBare s'.gens) s₁) :
 WalkO q loose XP YP l.row.toRowW d [] (fun f vs => PySem.call f vs) := by
 intro w s₀ s₁ mg mb G Y fa o pm cd doc dV kV ho hd hcd hD hmg hg args vals as hpre hlay hrd hwl hlo
 obtain rfl : dV = .none := Dflts.none hD hdf
 obtain rfl : kV = .none := Dflts.noKw hD
 obtain ⟨a, vs, ns, rfl, rfl, hobj, hints, hlen⟩ := script_of hn hpre hwl
 refine enter_call (codeAny_mono (call w s₀ s₁ mg mb fa o pm cd doc a vs ns G Y ho (fd_plain hd) hcd hmg hobj hints hlen hg) fun r s' hq => ?_)
 obtain ⟨rfl, h2, h3, h4⟩ := hq
 exact ⟨.inl ⟨.bool true, .bool true, [], rfl, fun _ => rfl, .bool true, post_true l _, fun _ => ⟨List.Pairwise.nil, fun _ hm => (nomatch hm)⟩⟩, h2, h3, h4⟩
section
variable {prog : Program} {w : World} {A : Around} {E : Value → Shared → Prop} {s : Shared} {K : Frag}
def ledger (h : Heap) (L d : Addr) : List (Addr × Obj) := (List.range h.objs.size).filterMap fun a => if a = L ∨ a = d then none else (h.get? a).map fun o => (a, o)
end
end Att
namespace L2
open PySem PySem.Spec PyProof.Rows
theorem vals_ints : ∀ {vs : List Value} {ns : List Int}, IntsAre vs ns → Vals (ns.map V.int) vs
 | _, _, .nil => .nil
 | _, _, .cons n t h => .cons ⟨t, rfl⟩ (vals_ints h)
def Only (H : Hp) : Prop := ∀ b, H b = none ∨ ∃ o xs, H b = some (.frz o (.lst xs))
end L2
namespace L2
open PySem PySem.Spec PyProof.Rows
end L2
namespace L2
open PySem PySem.Spec PyProof.Rows
def defArgs (s : Stmt) : Arguments := match s with
 | .FunctionDef _ a _ _ _ _ _ _ _ _ => a
 | _ => { posonlyargs := [], args := [], vararg := none, kwonlyargs := [], kw_defaults := [], kwarg := none, defaults := [] }
def defBody (s : Stmt) : List Stmt := match s with
 | .FunctionDef _ _ b _ _ _ _ _ _ _ => b
 | _ => []
def defScope (s : Stmt) : Scope := match s with
 | .FunctionDef _ _ _ _ _ _ sc _ _ _ => sc
 | _ => { kind := .function, names := [], isGenerator := false, isCoroutine := false }
structure Fun (K : PySem.W.Frag) (x qual : Str) (st : Stmt) (f : Addr) (fd : FuncData) : Prop where
 ex : ∃ (oc : Value) (od : Option Addr) (kV doc pm : Value) (an : Option Addr) (cdv ct : Value) (osl : Array (Option Value)),
  fd = PySem.W.fnOf x qual (defArgs st) (defBody st) (defScope st) .none kV doc pm an cdv ct ∧ K.lookup f = some ⟨oc, od, .func fd, osl⟩ ∧ PySem.W.codeIn K cdv qual = true
 kp : PySem.W.keepIn K (.ref f) = true
section
variable {P : Program} {w : World} {K : PySem.W.Frag} {mg : Str → Option Value} {base : Heap}
theorem Fun.binds {x qual : Str} {st : Stmt} {f : Addr} {fd : FuncData} {ps : List Str} (F : Fun K x qual st f fd)
 (h : ∀ (kV doc pm : Value) (an : Option Addr) (cdv ct : Value) (us : List Value), us.length = ps.length → bindArgs (PySem.W.fnOf x qual (defArgs st) (defBody st) (defScope st) .none kV doc pm an cdv ct) ⟨us, []⟩ = pure (ps.zip us)) : Binds K fd ps [] := by
 obtain ⟨oc, od, kV, doc, pm, an, cdv, ct, osl, rfl, lk, hcd⟩ := F.ex
 exact .all (h kV doc pm an cdv ct)
theorem fun_mk {x qual : Str} {st : Stmt} {f : Addr} {oc : Value} {od an : Option Addr} {osl : Array (Option Value)} {kV doc pm cdv ct : Value} (l : K.lookup f = some ⟨oc, od, .func (PySem.W.fnOf x qual (defArgs st) (defBody st) (defScope st) .none kV doc pm an cdv ct), osl⟩)
 (c : PySem.W.codeIn K cdv qual = true) (k : PySem.W.keepIn K (.ref f) = true) : Fun K x qual st f (PySem.W.fnOf x qual (defArgs st) (defBody st) (defScope st) .none kV doc pm an cdv ct) := ⟨⟨oc, od, kV, doc, pm, an, cdv, ct, osl, rfl, l, c⟩, k⟩
end
section
variable {X : Cx}
end
theorem iteF {A B : Prop} (h : B) : if false = true then A else B := by
 rw [if_neg Bool.false_ne_true]
 exact h
theorem iteT {A B : Prop} (h : A) : if true = true then A else B := by
 rw [if_pos rfl]
 exact h
def Same (H H' : Hp) : Prop := ∀ b o, H b = some o → H' b = some o
theorem Same.refl (H : Hp) : Same H H := fun _ _ h => h
theorem Same.trans {H H1 H2 : Hp} (a : Same H H1) (b : Same H1 H2) : Same H H2 := fun c o h => b c o (a c o h)
theorem Same.free {H H' : Hp} (e : Same H H') {l : Addr} (h : H' l = Option.none) : H l = Option.none := by
 cases q : H l with
 | none => rfl
 | some o =>
  rw [e l o q] at h
  cases h
end L2
set_option maxHeartbeats 4000000
namespace L2
open PySem PySem.Spec PyProof.Rows
open PySem.W (hideAll hideAll_get of_hideAll funFrames_hide)
structure Fly (P : Program) (w : World) (outer : List Env) (H : Hp) (s : Shared) (E : XK) (a C t : Addr) (vs : List Value) (H' : Hp) (B : Heap) (s' : Shared) : Prop where
 os : s'.os = s.os
 bare : AllBare s'.gens
 hok : HOk P w H' B
 fly : Heap.FlyingW B outer a (.ref C) (.ref t) s'.heap
 tn : B.get? t = none
 tup : s'.heap.TupAt t vs
 keepB : ∀ b o, s.heap.get? b = some o → H b = none → b ∉ frs outer → B.get? b = some o
 thereB : ∀ b o, s.heap.get? b = some o → b ∉ frs outer → ∃ o', B.get? b = some o'
 un : Un (frs outer) [] H H' s.heap s'.heap
 ends : E (.ref C) (some a) H'
def CX1 (P : Program) (w : World) : CXT := fun outer H s E e s' => ∃ a C t vs H' B, e = .ref a ∧ Fly P w outer H s E a C t vs H' B s'
section
variable {P : Program} {w : World} {K : PySem.W.Frag} {mg : Str → Option Value} {base : Heap} {N : List Str} {qual : Str} {scope : Scope} {f : Addr} {cd : Value} {A : Around} {outer : List Env} {s0 : Shared} {H0 : Hp} {E : XK}
theorem out_of {X : Cx} {pins : List (Addr × Obj)} {σ : St} {H : Hp} {s : Shared} (I : Inv X pins σ H s) {b : Addr} {o : Obj} (hl : X.env.locals = X.s₀.heap.objs.size) (q : X.s₀.heap.get? b = some o) (hb : b ∉ X.fs) : b ∉ frs X.stack := fun z => by
 rcases List.mem_cons.mp (I.stkSub b z) with e | e
 ·rw [hl] at e
  exact absurd (Heap.lt_size q) (by rw [e]; exact Nat.lt_irrefl _)
 ·exact hb e
theorem pass1 : Passes (CX1 P w) (cxOf (CX1 P w) P w K mg base N qual scope f cd A outer s0 H0 E) E := by
 rintro pins σ H s e s' I ⟨a, C, t, vs, H', B, rfl, F⟩
 have nx : ∀ b : Addr, b ∉ (cxOf (CX1 P w) P w K mg base N qual scope f cd A outer s0 H0 E).ex := fun b z => nomatch (show b ∈ ([] : List Addr) from z)
 have keepB : ∀ b o, s0.heap.get? b = some o → H0 b = none → b ∉ frs outer → B.get? b = some o := fun b o q n hb =>
  F.keepB b o (I.base.keep b o q n hb (nx b)) (I.base.free b o q n (nx b)) (out_of I rfl q hb)
 have thereB : ∀ b o, s0.heap.get? b = some o → b ∉ frs outer → ∃ o', B.get? b = some o' := fun b o q hb => by
  obtain ⟨o1, q1⟩ := I.base.there b o q (nx b)
  exact F.thereB b o1 q1 (out_of I rfl q hb)
 refine wpAny_leaves_onW I.ok.frames rfl F.fly fun h' x1 x2 => ⟨a, C, t, vs, H', B, rfl, ?_⟩
 have slot : ∀ b o, s0.heap.get? b = some o → H0 b = none → b ∈ frs outer → ∃ sl, h'.get? b = some { o with slots := sl } := fun b o q n hb => by
  obtain ⟨sl, q1⟩ := I.base.slot b o q n hb (nx b)
  obtain ⟨sl2, q2⟩ := F.un.any q1 (I.base.free b o q n (nx b)) (fun z => nomatch z)
  obtain ⟨_, o', q3, hd⟩ := F.fly.2.2.1.mem (b := b) (List.mem_filterMap.mpr (let ⟨v, h1, h2⟩ := List.mem_filterMap.mp hb; ⟨v, .tail _ h1, h2⟩))
  rw [q2] at q3
  cases q3
  obtain ⟨sl3, q4⟩ := x2 b _ q2 hd
  exact ⟨sl3, q4⟩
 refine ⟨F.os.trans I.os, F.bare, F.hok, x1, F.tn, F.tup.of_slots x2, keepB, thereB, ⟨fun b o q n hb _ => x1.1 _ _ (keepB b o q n hb), fun b o q n hb _ => slot b o q n hb, fun b o q n _ => ?_, fun b o q _ => ?_, fun b xs q => F.un.tups _ _ (I.base.tups _ _ q), fun b o u q => F.un.frzs _ _ _ (I.base.frzs _ _ _ q), fun b ps q => ?_⟩, F.ends⟩
 ·obtain ⟨sl, q1⟩ := I.base.any q n (nx b)
  exact F.un.free b _ q1 (I.base.free b o q n (nx b)) (fun z => nomatch z)
 ·by_cases hb : b ∈ frs outer
  ·obtain ⟨sl, q1⟩ := slot b o q (I.ok.frf b hb) hb
   exact ⟨_, q1⟩
  ·obtain ⟨o', q1⟩ := thereB b o q hb
   exact ⟨o', x1.1 _ _ q1⟩
 ·obtain ⟨m1, q1⟩ := I.base.tbls b ps q
  obtain ⟨m2, q2⟩ := F.un.tbls b _ q1
  exact ⟨m1 ++ m2, by rw [← Array.append_assoc]; exact q2⟩
theorem raise1 {pins : List (Addr × Obj)} {σ : St} {H : Hp} {s : Shared} {h1 : Heap} {e C : Addr} {us : List Value} (I : Inv (cxOf (CX1 P w) P w K mg base N qual scope f cd A outer s0 H0 E) pins σ H s)
 (hx : Heap.MadeExcOf s.heap h1 e (.ref C) us) (hE : E (.ref C) (some e) H) : (cxOf (CX1 P w) P w K mg base N qual scope f cd A outer s0 H0 E).xe (.ref e) { s with heap := h1 } := by
 have nx : ∀ b : Addr, b ∉ (cxOf (CX1 P w) P w K mg base N qual scope f cd A outer s0 H0 E).ex := fun b z => nomatch (show b ∈ ([] : List Addr) from z)
 have hin : ∀ env ∈ (cxOf (CX1 P w) P w K mg base N qual scope f cd A outer s0 H0 E).stack, ∀ b, env.frame = some b → b ∈ frs (cxOf (CX1 P w) P w K mg base N qual scope f cd A outer s0 H0 E).stack := fun env he b hb => List.mem_filterMap.mpr ⟨env, he, hb⟩
 refine wpAny_leaves_madeW (h := s.heap) I.ok.frames rfl (fun b o q => of_hideAll _ q) (funFrames_hide I.stack hin) hx fun h' t x1 x2 x3 x4 => ⟨e, C, t, us, H, hideAll s.heap (frs (cxOf (CX1 P w) P w K mg base N qual scope f cd A outer s0 H0 E).stack), rfl, ?_⟩
 have keepB : ∀ b o, s0.heap.get? b = some o → H0 b = none → b ∉ frs outer → (hideAll s.heap (frs (cxOf (CX1 P w) P w K mg base N qual scope f cd A outer s0 H0 E).stack)).get? b = some o := fun b o q n hb =>
  hideAll_get _ (I.base.keep b o q n hb (nx b)) (out_of I rfl q hb)
 have thereB : ∀ b o, s0.heap.get? b = some o → b ∉ frs outer → ∃ o', (hideAll s.heap (frs (cxOf (CX1 P w) P w K mg base N qual scope f cd A outer s0 H0 E).stack)).get? b = some o' := fun b o q hb => by
  obtain ⟨o1, q1⟩ := I.base.there b o q (nx b)
  exact ⟨o1, hideAll_get _ q1 (out_of I rfl q hb)⟩
 have slot : ∀ b o, s0.heap.get? b = some o → H0 b = none → b ∈ frs outer → ∃ sl, h'.get? b = some { o with slots := sl } := fun b o q n hb => by
  obtain ⟨sl, q1⟩ := I.base.slot b o q n hb (nx b)
  obtain ⟨_, o', q3, hd⟩ := I.stack.mem (b := b) (List.mem_filterMap.mpr (let ⟨v, h1, h2⟩ := List.mem_filterMap.mp hb; ⟨v, .tail _ h1, h2⟩))
  rw [q1] at q3
  cases q3
  obtain ⟨sl3, q4⟩ := x4 b _ (hx.keeps _ _ q1) hd
  exact ⟨sl3, q4⟩
 refine ⟨I.os, I.bare, fun b o q => ?_, x1, x3, x2, keepB, thereB, ⟨fun b o q n hb _ => x1.1 _ _ (keepB b o q n hb), fun b o q n hb _ => slot b o q n hb, fun b o q n _ => I.base.free b o q n (nx b), fun b o q _ => ?_, I.base.tups, I.base.frzs, I.base.tbls⟩, hE⟩
 ·refine (I.hok b o q).stay (fun c v hc r => hideAll_get _ r fun z => ?_) (fun _ q => q) fun _ _ q => q
  have z' := I.stkFree c z
  rcases hc with rfl | hc
  ·rw [q] at z'; cases z'
  ·rw [hc] at z'; cases z'
 ·by_cases hb : b ∈ frs outer
  ·obtain ⟨sl, q1⟩ := slot b o q (I.ok.frf b hb) hb
   exact ⟨_, q1⟩
  ·obtain ⟨o', q1⟩ := thereB b o q hb
   exact ⟨o', x1.1 _ _ q1⟩
end
end L2
set_option maxHeartbeats 4000000
namespace L2
open PySem PySem.Spec PyProof.Rows
theorem objOk_there {P : Program} {w : World} {H : Hp} {h : Heap} {a : Addr} {o : HO} (x : ObjOk P w H h a o) : ∃ o', h.get? a = some o' := by
 cases o with
 | lst xs => obtain ⟨_, _, _, _, e⟩ := x; exact ⟨_, e⟩
 | tup xs => obtain ⟨_, _, _, o, e, _⟩ := x; exact ⟨_, e⟩
 | dK kvs => obtain ⟨_, _, _, _, o, _, _, e, _⟩ := x; exact ⟨_, e⟩
 | dT kvs => obtain ⟨_, _, _, _, o, _, _, e, _⟩ := x; exact ⟨_, e⟩
 | set S n => obtain ⟨o, _, _, _, e, _⟩ := x; exact ⟨_, e⟩
 | ins C dx fs => obtain ⟨_, _, _, e, _⟩ := x; exact ⟨_, e⟩
 | own y => exact x
 | xd fs => obtain ⟨_, ⟨_, _, _, e, _⟩, _⟩ := x; exact ⟨_, e⟩
 | rng lo hi => obtain ⟨_, _, _, e⟩ := x; exact ⟨_, e⟩
 | frz ob u => obtain ⟨e, _⟩ := x; exact ⟨_, e⟩
 | tbl ps => exact ⟨_, x⟩
 | met f y => exact ⟨_, x⟩
 | ext φ => exact x.2.1
def tRaise (C : Addr) (E : XK) (ta : TA) : TS := fun _ σ H => ta σ H fun vs H1 => vs.length ≤ sizeLine ∧ ∀ e, H1 e = none → E (.ref C) (some e) H1
section
variable {P : Program} {w : World} {K : PySem.W.Frag} {mg : Str → Option Value} {base : Heap} {N : List Str} {qual : Str} {scope : Scope} {f : Addr} {cd : Value} {A : Around} {outer : List Env} {s0 : Shared} {H0 : Hp} {E : XK}
theorem ps_raise {x : Str} {C : Addr} {Bn newId initId : String} {bm : List Value} {e₀ : Expr} {rest : List Expr} {np cpos pos : Pos} {ta : TA} (hg : Gl (cxOf (CX1 P w) P w K mg base N qual scope f cd A outer s0 H0 E) x) (O : OwnCls x C bm newId mg base) (FB : ExcBaseFacts Bn newId initId bm)
 (ha : PA (cxOf (CX1 P w) P w K mg base N qual scope f cd A outer s0 H0 E) (e₀ :: rest) ta)
 (he : starEach (e₀ :: rest) (cxOf (CX1 P w) P w K mg base N qual scope f cd A outer s0 H0 E).env = (false, eval e₀ (cxOf (CX1 P w) P w K mg base N qual scope f cd A outer s0 H0 E).env) :: starEach rest (cxOf (CX1 P w) P w K mg base N qual scope f cd A outer s0 H0 E).env := by rfl)
 (hplain : (backTo cpos (starEach rest (cxOf (CX1 P w) P w K mg base N qual scope f cd A outer s0 H0 E).env)).any (·.1) = false := by rfl) (hd : (x == ("__debug__" : Str)) = false := by decide) :
 PS (cxOf (CX1 P w) P w K mg base N qual scope f cd A outer s0 H0 E) (.Raise (some (.Call (.Name x np) (e₀ :: rest) [] cpos)) none pos) (tRaise C E ta) := by
 intro pins s σ H D I h
 obtain ⟨tl, Nn, nm, q, bs, hdct, sn, sub, ab, col, dd, k0, k1, k2, k3, k5, mN, hC, hN, hni, T⟩ := O.obj
 refine wpAny_Raise_call_subT (C := C) (nm := nm) (q := q) (N := Nn) (bs := bs) (bm := tl) (hdct := hdct) (sn := sn) (sub := sub) (ab := ab) (col := col) (dd := dd) (k0 := k0) (k1 := k1) (k2 := k2) (k3 := k3) (k5 := k5)
  FB (mN := mN) (T.hasType FB.hasBase) (I.ok.hd rfl) (by rw [he]; show (false || (backTo cpos (starEach rest (cxOf (CX1 P w) P w K mg base N qual scope f cd A outer s0 H0 E).env)).any (·.1)) = false; rw [hplain]; rfl) hni (ld_glob I hg O.bound ⟨rfl, ?_⟩ hd)
 have h2 := ha cpos pins s σ H _ I h
 rw [he] at h2 ⊢
 refine Calls.evalArgs_plain (wpAny_mono h2 (fun us s2 ⟨vs, H1, I1, rv, hl, hE⟩ => ?_) fun _ _ y => y)
 refine ⟨rfl, by rw [← rv.length]; exact hl, I1.bk _ _ hC, hN.keeps I1.bk, T.keeps I1.bk, fun h1 e hx => raise1 I1 hx (hE e ?_)⟩
 cases z : H1 e with
 | none => rfl
 | some o =>
  obtain ⟨o', ho'⟩ : ∃ o', s2.heap.get? e = some o' := by
   exact objOk_there (I1.hok _ _ z)
  rw [hx.new] at ho'
  cases ho'
theorem Fun.ok1 {x qual : Str} {st : Stmt} {f : Addr} {fd : FuncData} {N ps : List Str} {k : Nat} {sp : Sp} (F : Fun K x qual st f fd) (S : FnScope N ps (defScope st)) (len : ∀ vs H Q E, sp vs H Q E → vs.length = ps.length)
 (hbody : ∀ (cdv : Value) (A : Around) (outer : List Env) (s : Shared) (H : Hp) (vs : List V) (Q : VK) (E : XK), Room k (A.deeper (envOfC qual (defScope st) s.heap.objs.size f cdv)) → sp vs H Q E →
  ∃ t, PSs (cxOf (CX1 P w) P w K mg base N qual (defScope st) f cdv A outer s H E) (defBody st) t ∧ t { nx := fun _ H' => Q .non H', rt := Q } (start N vs) H) : FnOk P w K mg base (CX1 P w) (k + 1) f fd ps sp := by
 obtain ⟨oc, od, kV, doc, pm, an, cdv, ct, osl, rfl, lk, hcd⟩ := F.ex
 refine fn_of lk hcd S len fun A outer s H vs Q E hr hsp => ?_
 exact hbody cdv A outer s H vs Q E hr hsp
end
end L2
set_option maxHeartbeats 4000000
namespace L2
open PySem PySem.Spec PyProof.Rows
def excO (a C : Addr) : HO := .ext fun h => ∃ ob vs, h.get? a = some ob ∧ ob.cls = .ref C ∧ ob.data = .fields vs
section
variable {P : Program} {w : World}
theorem Fly.fresh {outer : List Env} {H : Hp} {s s' : Shared} {E : XK} {a C t : Addr} {vs : List Value} {H' : Hp} {B : Heap} (F : Fly P w outer H s E a C t vs H' B s') : H' a = none := by
 cases z : H' a with
 | none => rfl
 | some o =>
  obtain ⟨o', ho'⟩ := objOk_there (F.hok _ _ z)
  rw [F.fly.2.1] at ho'
  cases ho'
theorem Inv.caught {X : Cx} {pins : List (Addr × Obj)} {σ : St} {H : Hp} {s s' : Shared} {E : XK} {a C t : Addr} {vs : List Value} {H' : Hp} {B h6 : Heap} {tk : Nat} (I : Inv X pins σ H s) (F : Fly X.prog X.w X.stack H s E a C t vs H' B s')
 (hf : Heap.FlyingW B X.stack a (.ref C) (.ref t) h6) (hs : s'.heap.UpToSlots h6) : Inv X pins σ (upd H' a (excO a C)) { s' with heap := h6, toks := tk } := by
 have ha := F.fresh
 obtain ⟨oa, va, ea, ca, da, _⟩ := hf.first
 have frame : ∀ b, b ∈ frs X.stack → ∃ o, h6.get? b = some o ∧ ∀ vs, o.data ≠ .fields vs := fun b hb => (hf.2.2.1.mem hb).2
 have ne : ∀ b o, s.heap.get? b = some o → b ≠ a := fun b o q z => by
  subst z
  by_cases hb : b ∈ frs X.stack
  ·obtain ⟨o', q', hd⟩ := frame b hb
   rw [ea] at q'
   cases q'
   exact hd _ da
  ·obtain ⟨o', q'⟩ := F.thereB b o q hb
   rw [F.fly.2.1] at q'
   cases q'
 have slot : ∀ b o, s.heap.get? b = some o → H b = none → b ∈ frs X.stack → ∃ sl, h6.get? b = some { o with slots := sl } := fun b o q n hb => by
  obtain ⟨sl2, q2⟩ := F.un.any q n (fun z => nomatch z)
  obtain ⟨_, o', q3, hd⟩ := F.fly.2.2.1.mem (b := b) hb
  rw [q2] at q3
  cases q3
  obtain ⟨sl3, q4⟩ := hs b _ q2 hd
  exact ⟨sl3, q4⟩
 have un : Un (frs X.stack) [] H (upd H' a (excO a C)) s.heap h6 := by
  refine ⟨fun b o q n hb _ => hf.1 _ _ (F.keepB b o q n hb), fun b o q n hb _ => slot b o q n hb, fun b o q n _ => ?_, fun b o q _ => ?_, fun b xs q => ?_, fun b o u q => ?_, fun b ps q => ?_⟩
  ·rw [upd_ne (ne b o q)]; exact F.un.free b o q n (fun z => nomatch z)
  ·by_cases hb : b ∈ frs X.stack
   ·obtain ⟨o', q', _⟩ := frame b hb
    exact ⟨o', q'⟩
   ·obtain ⟨o', q1⟩ := F.thereB b o q hb
    exact ⟨o', hf.1 _ _ q1⟩
  ·have q1 := F.un.tups b xs q
   rw [upd_ne (ne_of_none q1 ha)]; exact q1
  ·have q1 := F.un.frzs b o u q
   rw [upd_ne (ne_of_none q1 ha)]; exact q1
  ·obtain ⟨m, q1⟩ := F.un.tbls b ps q
   exact ⟨m, by rw [upd_ne (ne_of_none q1 ha)]; exact q1⟩
 have hok : HOk X.prog X.w (upd H' a (excO a C)) h6 := fun b o q => by
  by_cases hb : b = a
  ·subst hb
   rw [upd_same] at q
   cases q
   exact ⟨⟨oa, va, ea, ca, da⟩, ⟨oa, ea⟩, fun h1 h2 ⟨ob, vs, e1, e2, e3⟩ k => ⟨ob, vs, k _ e1, e2, e3⟩⟩
  ·rw [upd_ne hb] at q
   exact (F.hok b o q).stay (fun c v hc r => hf.1 _ _ r) (fun c r => by rw [upd_ne (ne_of_none r ha)]; exact r) fun c xs r => by rw [upd_ne (ne_of_none r ha)]; exact r
 obtain ⟨hh, g, d, tt, os'⟩ := s'
 obtain rfl : os' = s.os := F.os
 have fin := I.call (h' := h6) (g' := g) (d' := d) (t' := tk) (ch := []) un hok F.bare (fun b z => absurd z (by simp))
 exact fin
end
end L2
set_option maxHeartbeats 4000000
namespace L2
open PySem PySem.Spec PyProof.Rows
def clOf (env : Env) (ys : List Str) : List (Str × Addr) := ys.map fun y => (y, (env.cells.lookup y).getD 0)
def inS (σ : St) (is : List Nat) : St := is.map fun i => (σ[i]?).join
def compCx (X : Cx) (N' : List Str) (scope : Scope) (cl : List (Str × Addr)) (fp : List Addr) (s₁ : Shared) (H₁ : Hp) (C : Addr) : Cx where
 prog := X.prog
 w := X.w
 K := X.K
 mg := X.mg
 base := X.base
 A := X.A
 N := N'
 s₀ := s₁
 H₀ := H₁
 env := compEnvC scope cl C X.env
 outer := X.stack
 stack := X.stack
 ex := fp
 fn := fun _ => false
 calm := true
 pn := []
 xe := fun _ _ => False
theorem clOf_lookup {env : Env} : ∀ {ys : List Str}, (ys.all fun y => (env.cells.lookup y).isSome) = true → ∀ (x : Str) (c : Addr), (clOf env ys).lookup x = some c → env.cells.lookup x = some c
 | [], _, _, _, h => by simp [clOf] at h
 | y :: ys, ha, x, c, h => by
  rw [List.all_cons, Bool.and_eq_true] at ha
  have ih := clOf_lookup (env := env) ha.2 x c
  unfold clOf at h ih
  rw [List.map_cons, List.lookup_cons] at h
  cases e : x == y with
  | true =>
   rw [e] at h
   have exy : x = y := beq_iff_eq.mp e
   subst exy
   obtain ⟨c', hc'⟩ := Option.isSome_iff_exists.mp ha.1
   rw [hc'] at h ⊢
   exact h
  | false =>
   rw [e] at h
   exact ih h
theorem clOf_has {env : Env} : ∀ {ys : List Str} {x : Str}, x ∈ ys → ∃ c, (clOf env ys).lookup x = some c
 | [], _, h => nomatch h
 | y :: ys, x, h => by
  unfold clOf
  rw [List.map_cons, List.lookup_cons]
  cases e : x == y with
  | true => exact ⟨_, rfl⟩
  | false =>
   have hx : x ∈ ys := by
    rcases List.mem_cons.mp h with z | z
    ·rw [z] at e; simp at e
    ·exact z
   exact clOf_has (env := env) hx
theorem relabel_mem {scope : Scope} {env : Env} {x : Str} {k : NameKind} (h : (relabel scope env).names.lookup x = some k) (hk : k = .cell ∨ k = .free) : ∃ k', (x, k') ∈ scope.names ∧ (k' = .cell ∨ k' = .free) := by
 have hm := PySem.mem_of_lookup h
 unfold relabel at hm
 obtain ⟨⟨n, k0⟩, h0, e⟩ := List.mem_map.mp hm
 dsimp only at e
 split at e
 ·rename_i hc
  cases e
  refine ⟨k0, h0, .inr ?_⟩
  rw [Bool.and_eq_true, Bool.and_eq_true] at hc
  exact beq_iff_eq.mp hc.1.1
 ·cases e
  exact ⟨k, h0, hk⟩
structure CompSc (X : Cx) (scope : Scope) (xs ys : List Str) (is : List Nat) : Prop where
 kind : scope.kind = .function
 clos : closureFor scope X.env = pure (clOf X.env ys)
 cells : (ys.all fun y => (X.env.cells.lookup y).isSome) = true
 cov : (scope.names.all fun y => decide (y.2 ≠ .cell) && (decide (y.2 ≠ .free) || ys.contains y.1)) = true
 names : (scope.names.all fun y => decide (y.2 ≠ .local) || decide (scope.names.lookup y.1 = some .local)) = true
 slots : is.map (fun i => X.N[i]?) = ys.map some
 kX : (ys.all fun y => decide (X.env.kindOf y = some .cell)) = true
 kY : (ys.all fun y => decide ((relabel scope X.env).names.lookup y = some .cell)) = true
section
variable {X : Cx} {pins : List (Addr × Obj)} {σ : St} {H : Hp} {s : Shared} {scope : Scope} {xs ys : List Str} {is : List Nat}
theorem compCx_ok (I : Inv X pins σ H s) (hc : X.calm = true) (S : CompSc X scope xs ys is) {N' : List Str} {fp : List Addr} {C : Addr} (hC : s.heap.objs.size ≤ C) (hf : ∀ b ∈ fp, FpOk X pins H b) (hfl : ∀ b ∈ fp, b < s.heap.objs.size) :
 (compCx X N' scope (clOf X.env ys) fp s H C).Ok where
 mod := I.ok.mod
 kind := S.kind
 glob := I.ok.glob
 blt := I.ok.blt
 above := hC
 inj := fun x y c h1 h2 => I.ok.inj x y c (clOf_lookup S.cells x c h1) (clOf_lookup S.cells y c h2)
 has := fun x hx => by
  have hx' : (relabel scope X.env).names.lookup x = some .cell ∨ (relabel scope X.env).names.lookup x = some .free := hx
  have : ∃ k', (x, k') ∈ scope.names ∧ (k' = .cell ∨ k' = .free) := by
   rcases hx' with z | z
   ·exact relabel_mem z (.inl rfl)
   ·exact relabel_mem z (.inr rfl)
  obtain ⟨k', hm, hk⟩ := this
  have cv := List.all_eq_true.mp S.cov _ hm
  rw [Bool.and_eq_true, Bool.or_eq_true] at cv
  rcases hk with z | z
  ·exact absurd z (of_decide_eq_true cv.1)
  ·rcases cv.2 with q | q
   ·exact absurd z (of_decide_eq_true q)
   ·exact clOf_has (List.contains_iff_mem.mp q)
 cab := fun x c h _ => by cases h
 hd := fun _ => I.ok.hd hc
 frames := I.ok.frames
 stk := .inl rfl
 exf := fun b hb => ⟨Nat.ne_of_lt (Nat.lt_of_lt_of_le (hfl b hb) hC), fun x c h => (hf b hb).2.2.2.2.1 x c (clOf_lookup S.cells x c h)⟩
 bs := fun b o e => I.bs b o e
 bsz := Nat.le_trans I.ok.bsz I.sz
 noex := fun b o e hb => by
  rcases (hf b hb).2.2.2.1 with z | z
  ·exact I.ok.noex b o e z
  ·exact absurd (Nat.lt_of_lt_of_le (Heap.lt_size e) (Nat.le_trans I.ok.bsz z)) (Nat.lt_irrefl _)
 exfs := fun b hb hs => (List.mem_cons.mp (I.stkSub b hs)).elim (hf b hb).2.1 (hf b hb).2.2.1
 funs := I.stack
 frf := fun b hb => I.stkFree b hb
theorem inS_get {N : List Str} : ∀ {is : List Nat} {ys : List Str}, is.map (fun i => N[i]?) = ys.map some → ∀ (j : Nat) (y : Str) (v : V), ys[j]? = some y → (inS σ is)[j]? = some (some v) → ∃ i : Nat, N[i]? = some y ∧ σ[i]? = some (some v)
 | [], [], _, _, _, _, h, _ => by simp at h
 | [], _ :: _, h, _, _, _, _, _ => by simp at h
 | _ :: _, [], h, _, _, _, _, _ => by simp at h
 | i :: is, y0 :: ys, h, 0, y, v, h1, h2 => by
  rw [List.map_cons, List.map_cons] at h
  have h0 := (List.cons.inj h).1
  simp only [List.getElem?_cons_zero, Option.some.injEq] at h1
  subst h1
  refine ⟨i, h0, ?_⟩
  unfold inS at h2
  simp only [List.map_cons, List.getElem?_cons_zero, Option.some.injEq] at h2
  exact Option.join_eq_some_iff.mp h2
 | i :: is, y0 :: ys, h, j + 1, y, v, h1, h2 => by
  rw [List.map_cons, List.map_cons] at h
  refine inS_get (is := is) (ys := ys) (List.cons.inj h).2 j y v (by simpa using h1) ?_
  unfold inS at h2 ⊢
  simpa using h2
abbrev lobj (its : List Value) (n : Nat) : Obj := { cls := .type "list", data := .seq its.toArray n }
theorem lobj_cell (its : List Value) (n : Nat) (v : Option Value) : (lobj its n).data ≠ .cell v := fun z => by cases z
abbrev tests (ifs : List Expr) (env : Env) : Sem Bool := forIn ifs true fun c r => if r = true then do let ok ← isTrue c env (eval c env); pure (ForInStep.yield ok) else pure (ForInStep.yield r)
theorem compLoop_any {prog : Program} {w : World} {A : Around} {R : Result → Shared → Prop} {s : Shared} {elt target iter : Expr} {ifs : List Expr} {scope : Scope} {pos : Pos} {it acc : Value} {env : Env} (I : Nat → Shared → Prop)
 (turn : ∀ n s, I n s → wpAny (model prog w) A (pyNext it) (fun r s₁ => match r with
  | none => R (.ok .next) s₁
  | some v => wpAny (model prog w) A (letOwnedTupleGo target it v) (fun _ s₁' => wpAny (model prog w) A (assign target env v) (fun _ s₂ =>
   wpAny (model prog w) A (tests ifs env) (fun ok s₃ => if ok = true then wpAny (model prog w) A (eval elt env) (fun x s₄ =>
    wpAny (model prog w) A (call (.builtin "list.append") [acc, x]) (fun _ s₅ => ∃ m, m < n ∧ I m s₅) (notedBy (model prog w) A env fun e s' => R (.error e) s') s₄) (notedBy (model prog w) A env fun e s' => R (.error e) s') s₃
    else ∃ m, m < n ∧ I m s₃) (notedBy (model prog w) A env fun e s' => R (.error e) s') s₂)
   (notedBy (model prog w) A env fun e s' => R (.error e) s') s₁') (notedBy (model prog w) A env fun e s' => R (.error e) s') s₁) (notedBy (model prog w) A env fun e s' => R (.error e) s') s)
 (n : Nat) (h : I n s) :
 codeAny (model prog w) A (.compLoop (.ListComp elt [⟨target, iter, ifs, 0⟩] scope pos) 0 it acc env) R s := by
 refine codeAny_loop rfl I (fun n s hI => ?_) n h
 show wpAny _ A ((compTurn (.ListComp elt [⟨target, iter, ifs, 0⟩] scope pos) 0 it acc env).onRaise (fun x => do noteFrame x env; theTreesLotGoes x)) _ _ s
 refine wpAny_noted ?_
 rw [compTurn_list]
 refine wpAny_bind (wpAny_standAt (wpAny_bind (wpAny_mono (turn n s hI) (fun r s₁ h₁ => ?_) fun _ _ h' => h')))
 cases r with
 | none => exact wpAny_pure h₁
 | some v =>
  refine wpAny_bind (wpAny_mono h₁ (fun _ s₁' h₁' => ?_) fun _ _ h' => h')
  refine wpAny_bind (wpAny_mono h₁' (fun _ s₂ h₂ => wpAny_bind (wpAny_mono h₂ (fun ok s₃ h₃ => ?_) fun _ _ h' => h')) fun _ _ h' => h')
  cases ok with
  | false => exact wpAny_pure ⟨rfl, h₃⟩
  | true => exact wpAny_bind (wpAny_bind (wpAny_mono h₃ (fun x s₄ h₄ => wpAny_bind (wpAny_mono h₄ (fun _ s₅ h₅ => wpAny_pure (wpAny_pure ⟨rfl, h₅⟩)) fun _ _ h' => h')) fun _ _ h' => h'))
def PIf (X : Cx) (ifs : List Expr) (t : TT) : Prop :=
 ∀ (pins : List (Addr × Obj)) (s : Shared) (σ : St) (H : Hp) (Q : Bool → Hp → Prop), Inv X pins σ H s → t σ H Q → wpAny (model X.prog X.w) X.A (tests ifs X.env) (TP X pins σ Q) X.xe s
theorem pif_nil {X : Cx} : PIf X [] (fun _ H q => q true H) := fun _ _ _ H _ I h => wpAny_tests_nil ⟨H, I, h⟩
theorem pif_one {X : Cx} {e : Expr} {t : TT} (h : PT X e t) : PIf X [e] t := fun pins s σ H Q I z => wpAny_tests_one (h pins s σ H Q I z)
def CompR (J : It) (k : Nat) (g : TG) (te : TE) (fs : St) (Q : VK) (H1 : Hp) : Prop := ∃ (n : Nat) (W : Nat → List V → St → Hp → Prop), W 0 [] (List.replicate k none ++ fs) H1 ∧
 ∀ i ys σ' H', W i ys σ' H' → ys.length < sizeLine ∧ ((J.stop i H' ∧ ∀ p, H' p = none → Q (.ref p) (upd H' p (.lst ys))) ∨
  (J.go i H' ∧ i < n ∧ ∀ x H'', J.yld i H' x H'' → g x σ' H'' fun σ2 H2 => te σ2 H2 fun y H3 => W (i + 1) (ys ++ [y]) σ2 H3))
def tComp (wi : TI) (k : Nat) (g : TG) (te : TE) (is : List Nat) : TE := fun σ H Q => wi σ H fun J H1 => CompR J k g te (inS σ is) Q H1
def CompIfR (J : It) (k : Nat) (g : TG) (tt : TT) (te : TE) (fs : St) (Q : VK) (H1 : Hp) : Prop := ∃ (n : Nat) (W : Nat → List V → St → Hp → Prop), W 0 [] (List.replicate k none ++ fs) H1 ∧
 ∀ i ys σ' H', W i ys σ' H' → ys.length < sizeLine ∧ ((J.stop i H' ∧ ∀ p, H' p = none → Q (.ref p) (upd H' p (.lst ys))) ∨
  (J.go i H' ∧ i < n ∧ ∀ x H'', J.yld i H' x H'' → g x σ' H'' fun σ2 H2 => tt σ2 H2 fun b H3 => if b = true then te σ2 H3 (fun y H4 => W (i + 1) (ys ++ [y]) σ2 H4) else W (i + 1) ys σ2 H3))
def tCompIf (wi : TI) (k : Nat) (g : TG) (tt : TT) (te : TE) (is : List Nat) : TE := fun σ H Q => wi σ H fun J H1 => CompIfR J k g tt te (inS σ is) Q H1
theorem comp_core {elt tg iter : Expr} {ifs : List Expr} {pos pp : Pos} {wi : TI} {g : TG} {te : TE} {tt : TT} {use : Option (Value → Sem Unit)} {QQ : Value → Shared → Prop} {Q : VK} (hc : X.calm = true) (S : CompSc X scope xs ys is) (hi : PI X tg iter wi)
 (hg : ∀ fp s1 H1 C, PG (compCx X (xs ++ ys) scope (clOf X.env ys) fp s1 H1 C) tg g) (ht : ∀ fp s1 H1 C, PIf (compCx X (xs ++ ys) scope (clOf X.env ys) fp s1 H1 C) ifs tt) (he : ∀ fp s1 H1 C, PE (compCx X (xs ++ ys) scope (clOf X.env ys) fp s1 H1 C) elt te)
 (hs : ∀ x, foldedSetIterable iter X.env x = pure x) (I : Inv X pins σ H s) (h : tCompIf wi xs.length g tt te is σ H Q)
 (fin : ∀ (D C : Addr) (s4 : Shared) (H4 : Hp) (m : Str → Option Value), Inv X pins σ H4 s4 → s4.heap.Ns C m → FpOk X pins H4 C → Q (.ref D) H4 → compPost (model X.prog X.w) X.A X.xe use QQ (.ref D) C (.ok .next) s4) :
 wpAny (model X.prog X.w) X.A (comprehension (.ListComp elt [⟨tg, iter, ifs, 0⟩] scope pos) scope X.env pp (newList []) false (eval iter X.env) use) QQ X.xe s := by
 have hnames : ∀ x ∈ scope.names, x.2 = .local → scope.names.lookup x.1 = some .local := fun x hx hl => by
  have q := List.all_eq_true.mp S.names x hx
  rw [Bool.or_eq_true] at q
  rcases q with q | q
  ·exact absurd hl (of_decide_eq_true q)
  ·exact of_decide_eq_true q
 have hcell : ∀ x ∈ scope.names, x.2 ≠ .cell := fun x hx => by
  have q := List.all_eq_true.mp S.cov x hx
  rw [Bool.and_eq_true] at q
  exact of_decide_eq_true q.1
 refine wpAny_comprehension_free (use := use) (Q := QQ) (g := ⟨tg, iter, ifs, 0⟩) (gs := []) rfl hs S.clos S.kind hnames (thn (hi pins s σ H _ I h) fun xv s0 h0 => thn h0 fun itv s1 h1 => ?_)
 obtain ⟨it, fp, tn, J, H1, rfl, I1, T, st1, f1, n, W, w0, turn⟩ := h1
 refine wpAny_newObj_type (wpAny_newFunctionEnv hcell (by intro y hy; simp at hy) (fun h₁ hns₁ hsb₁ => ?_) S.kind)
 dsimp only at hns₁ hsb₁ ⊢
 generalize hH2 : s1.heap.push { cls := .type "list", dict := none, data := .seq ([] : List Value).toArray } = G2 at hns₁ hsb₁ ⊢
 have hCs : G2.objs.size = s1.heap.objs.size + 1 := by rw [← hH2, Heap.size_push]
 have hCle : s1.heap.objs.size ≤ G2.objs.size := by rw [hCs]; exact Nat.le_succ _
 have hDC : s1.heap.objs.size ≠ G2.objs.size := by rw [hCs]; exact Nat.ne_of_lt (Nat.lt_succ_self _)
 have old : ∀ b o, s1.heap.get? b = some o → h₁.get? b = some o := fun b o e => hsb₁.extBut b o (Nat.ne_of_lt (Nat.lt_of_lt_of_le (Heap.lt_size e) hCle)) (Heap.get?_push_of_some _ (hH2 ▸ Heap.get?_push_of_some _ e))
 have hacc : h₁.get? s1.heap.objs.size = some (lobj [] 0) := hsb₁.extBut _ _ hDC (Heap.get?_push_of_some _ (hH2 ▸ Heap.get?_push_size _ rfl))
 have hfl : ∀ b ∈ fp, b < s1.heap.objs.size := fun b hb => by
  obtain ⟨o, e, _⟩ := T.obj _ _ st1 b hb
  exact Heap.lt_size e
 generalize hY : compCx X (xs ++ ys) scope (clOf X.env ys) fp s1 H1 G2.objs.size = Y
 have okY : Y.Ok := by rw [← hY]; exact compCx_ok I1 hc S hCle f1 hfl
 have hDf : ∀ b ∈ fp, s1.heap.objs.size ≠ b := fun b hb => Ne.symm (Nat.ne_of_lt (hfl b hb))
 have fsub : ∀ b, b ∈ Y.fs → b = X.env.locals ∨ b ∈ X.fs := fun b hb => by
  rw [← hY] at hb
  exact List.mem_cons.mp (I1.stkSub b hb)
 have fslt : ∀ b ∈ Y.fs, b < s1.heap.objs.size := fun b hb => by
  rw [← hY] at hb
  obtain ⟨_, o, ho, _⟩ := I1.stack.mem hb
  exact Heap.lt_size ho
 have hDfs : s1.heap.objs.size ∉ Y.fs := fun z => Nat.lt_irrefl _ (fslt _ z)
 have hYl : Y.env.locals = G2.objs.size := by rw [← hY]; rfl
 have hYc : ∀ x c, Y.env.cells.lookup x = some c → X.env.cells.lookup x = some c := fun x c e => by
  rw [← hY] at e
  exact clOf_lookup S.cells x c e
 have clt : ∀ x c, Y.env.cells.lookup x = some c → c < s1.heap.objs.size := fun x c e => by
  obtain ⟨v, q⟩ := I1.cell x c (hYc x c e)
  exact q.lt
 have hYpn : Y.pn = [] := by rw [← hY]; rfl
 have hYex : Y.ex = fp := by rw [← hY]; rfl
 have hYs : Y.s₀ = s1 := by rw [← hY]; rfl
 have hYH : Y.H₀ = H1 := by rw [← hY]; rfl
 have hYp : Y.prog = X.prog := by rw [← hY]; rfl
 have hYw : Y.w = X.w := by rw [← hY]; rfl
 have hYK : Y.K = X.K := by rw [← hY]; rfl
 have hYA : Y.A = X.A := by rw [← hY]; rfl
 have hYe : compEnvC scope (clOf X.env ys) G2.objs.size X.env = Y.env := by rw [← hY]; rfl
 have hYca : Y.calm = true := by rw [← hY]; rfl
 have hYxe : Y.xe = fun _ _ => False := by rw [← hY]; rfl
 have hYstk : Y.fs = frs X.stack := by rw [← hY]; rfl
 have pinD : ∀ {H' : Hp} {s' : Shared} {its : List Value} {k : Nat}, s'.heap.get? s1.heap.objs.size = some (lobj its k) → H' s1.heap.objs.size = none → ∀ p ∈ [(s1.heap.objs.size, lobj its k)], s'.heap.get? p.1 = some p.2 ∧ H' p.1 = none ∧ p.1 ≠ Y.env.locals ∧ p.1 ∉ Y.fs ∧ ∀ v, p.2.data ≠ .cell v :=
  fun {H' s' its k} e hn p hp => by
   obtain rfl := List.mem_singleton.mp hp
   exact ⟨e, hn, by rw [hYl]; exact hDC, hDfs, fun v => lobj_cell its k v⟩
 have fpY : ∀ {H' : Hp} {its : List Value} {k : Nat}, (∀ b ∈ fp, H' b = none) → ∀ b ∈ fp, FpOk Y [(s1.heap.objs.size, lobj its k)] H' b := fun {H' its k} hn b hb =>
  ⟨hn b hb, by rw [hYl]; exact Nat.ne_of_lt (Nat.lt_of_lt_of_le (hfl b hb) hCle), fun z => (fsub b z).elim (f1 b hb).2.1 (f1 b hb).2.2.1, .inl (by rw [hYex]; exact hb),
   fun x c e => (f1 b hb).2.2.2.2.1 x c (hYc x c e), fun p hp => by
    rw [hYpn, List.nil_append] at hp
    obtain rfl := List.mem_singleton.mp hp
    exact hDf b hb⟩
 have hDnew : H1 s1.heap.objs.size = none := I1.hok.fresh (Nat.le_refl _)
 have I2 : ∀ tk, Inv Y [(s1.heap.objs.size, lobj [] 0)] (List.replicate xs.length none ++ inS σ is) H1 { s1 with heap := h₁, toks := tk } := fun tk => by
  refine ⟨okY, by rw [hYs], I1.bare, by rw [hYs, hYH]; exact Un.kept old, ⟨_, by rw [hYl]; exact hns₁, fun i x v e1 e2 e3 => ?_⟩, fun x c e => ?_, ?_, fun x c e => I1.freeC x c (hYc x c e), fun p hp => ?_, by rw [hYp, hYw]; exact I1.hok.kept old, ?_⟩
  ·
   have hNY : Y.N = xs ++ ys := by rw [← hY]; rfl
   rw [hNY] at e1
   by_cases hlt : i < xs.length
   ·rw [List.getElem?_append_left (by rw [List.length_replicate]; exact hlt), List.getElem?_replicate, if_pos hlt] at e2
    cases e2
   ·have hge : xs.length ≤ i := Nat.not_lt.mp hlt
    rw [List.getElem?_append_right (by rw [List.length_replicate]; exact hge), List.length_replicate] at e2
    rw [List.getElem?_append_right hge] at e1
    obtain ⟨i0, h0, h1⟩ := inS_get S.slots _ x v e1 e2
    have hm : x ∈ ys := List.mem_of_getElem? e1
    have kx : X.env.kindOf x = some .cell := of_decide_eq_true (List.all_eq_true.mp S.kX x hm)
    have ky : (relabel scope X.env).names.lookup x = some .cell := of_decide_eq_true (List.all_eq_true.mp S.kY x hm)
    obtain ⟨m, _, hl⟩ := I1.loc
    obtain ⟨u, ru, lk⟩ := hl i0 x v h0 h1 (.inr (.inl kx))
    refine ⟨u, ru, .inr ⟨.inl (by rw [← hY]; exact ky), ?_⟩⟩
    rcases lk with ⟨z, _⟩ | ⟨_, c, hc1, hc2⟩
    ·rw [kx] at z; cases z
    ·obtain ⟨c', hc'⟩ := clOf_has (env := X.env) hm
     have hc'' := clOf_lookup S.cells x c' hc'
     rw [hc1] at hc''
     cases hc''
     refine ⟨c, by rw [← hY]; exact hc', ?_⟩
     obtain ⟨o, ho, hd⟩ := hc2
     exact ⟨o, old _ _ ho, hd⟩
  ·obtain ⟨v, o, ho, hd⟩ := I1.cell x c (hYc x c e)
   exact ⟨v, o, old _ _ ho, hd⟩
  ·rw [hYl]; exact I1.hok.fresh hCle
  ·rw [hYpn, List.nil_append] at hp
   exact pinD (s' := { s1 with heap := h₁, toks := tk }) hacc hDnew p hp
  ·have hNY : Y.N = xs ++ ys := by rw [← hY]; rfl
   have hl := congrArg List.length S.slots
   rw [List.length_map, List.length_map] at hl
   rw [hNY, List.length_append, List.length_append, List.length_replicate]
   unfold inS
   rw [List.length_map, hl]
 have loop : ∀ s₃ : Shared, s₃ = { s1 with heap := h₁, toks := s1.toks + ([] : List (Str × Value)).length } →
  codeAny (model X.prog X.w) X.A (.compLoop (.ListComp elt [⟨tg, iter, ifs, 0⟩] scope pos) 0 (.ref it) (.ref s1.heap.objs.size) (compEnvC scope (clOf X.env ys) G2.objs.size X.env))
   (compPost (model X.prog X.w) X.A X.xe use QQ (.ref s1.heap.objs.size) G2.objs.size) s₃ := by
  rintro s₃ rfl
  rw [hYe]
  refine compLoop_any (fun k s' => ∃ i made σ' H' its c, Inv Y [(s1.heap.objs.size, lobj its c)] σ' H' s' ∧ tn i s'.heap ∧ (∀ b ∈ fp, H' b = none) ∧ Vals made its ∧ k = n - i ∧ W i made σ' H') ?_ n
   ⟨0, [], _, H1, [], 0, I2 _, T.keep _ _ _ st1 fun b _ o e => old b o e, fun b hb => (f1 b hb).1, .nil, rfl, w0⟩
  rintro k s' ⟨i, made, σ', H', its, c, I3, st3, fr3, rv, rfl, w3⟩
  obtain ⟨hz, tw⟩ := turn i made σ' H' w3
  have pD := I3.pin (s1.heap.objs.size, lobj its c) (by rw [hYpn]; exact List.mem_singleton.mpr rfl)
  rcases tw with ⟨stop, hq⟩ | ⟨go, hin, step⟩
  ·rw [← hYA]
   refine thn (T.done Y hYp hYw hYK hYca i _ s' σ' H' _ I3 (fpY fr3) st3 stop) fun r s4 ⟨hr, I4⟩ => ?_
   subst hr
   obtain ⟨m, hn4, _⟩ := I4.loc
   rw [hYl] at hn4
   have pD4 := I4.pin (s1.heap.objs.size, lobj its c) (by rw [hYpn]; exact List.mem_singleton.mpr rfl)
   have kp : ∀ b o, b ≠ G2.objs.size → s4.heap.get? b = some o → s4.heap.get? b = some o := fun b o hb e => e
   have lt1 : ∀ {b o}, s1.heap.get? b = some o → b ≠ G2.objs.size := fun {b o} e => Nat.ne_of_lt (Nat.lt_of_lt_of_le (Heap.lt_size e) hCle)
   have hbase := I4.base
   rw [hYs, hYH, hYex, hYstk] at hbase
   have ltH : ∀ {b o}, H1 b = some o → b ≠ s1.heap.objs.size := fun {b o} e => Nat.ne_of_lt (I1.hok.lt e)
   have u : Un (frs X.stack) fp H1 (upd H' s1.heap.objs.size (.lst made)) s1.heap s4.heap := by
    refine ⟨fun b o e n hb hx => kp b o (lt1 e) (hbase.keep b o e n hb hx), fun b o e n hb hx => ?_, fun b o e n hx => ?_, fun b o e hx => ?_, fun b xs e => ?_, fun b o u e => ?_, fun b ps e => ?_⟩
    ·obtain ⟨sl, q⟩ := hbase.slot b o e n hb hx
     exact ⟨sl, kp b _ (lt1 e) q⟩
    ·rw [upd_ne (Nat.ne_of_lt (Heap.lt_size e))]; exact hbase.free b o e n hx
    ·obtain ⟨o', q⟩ := hbase.there b o e hx
     exact ⟨o', kp b _ (lt1 e) q⟩
    ·rw [upd_ne (ltH e)]; exact hbase.tups b xs e
    ·rw [upd_ne (ltH e)]; exact hbase.frzs b o u e
    ·obtain ⟨more, q⟩ := hbase.tbls b ps e
     exact ⟨more, by rw [upd_ne (ltH e)]; exact q⟩
   have hCn : H' G2.objs.size = none := by rw [← hYl]; exact I4.free
   have hok' : HOk X.prog X.w (upd H' s1.heap.objs.size (.lst made)) s4.heap := fun b o e => by
    by_cases hb : b = s1.heap.objs.size
    ·subst hb
     rw [upd_same] at e
     cases e
     exact ⟨Nat.le_of_lt hz, its, c, rv, kp _ _ hDC pD4.1⟩
    ·rw [upd_ne hb] at e
     have x4 := I4.hok b o e
     rw [hYp, hYw] at x4
     have neC : ∀ b' u, H' b' = some u → b' ≠ G2.objs.size := fun b' u q z => by rw [z, hCn] at q; cases q
     have neD : ∀ b' u, H' b' = some u → b' ≠ s1.heap.objs.size := fun b' u q z => by rw [z, pD4.2.1] at q; cases q
     refine x4.stay (fun b' u hb' q => kp b' u ?_ q) (fun b' q => ?_) fun b' xs q => ?_
     ·rcases hb' with z | z
      ·rw [z]; exact neC b o e
      ·exact neC b' _ z
     ·rw [upd_ne (neD b' _ q)]; exact q
     ·rw [upd_ne (neD b' _ q)]; exact q
   have I5 : Inv X pins σ (upd H' s1.heap.objs.size (.lst made)) s4 := I1.call' (by show s4.os = s1.os; rw [I4.os, hYs]) u hok' I4.bare fun b hb => ⟨(f1 b hb).2.2.2.1, (f1 b hb).2.1, (f1 b hb).2.2.2.2.1, (f1 b hb).2.2.2.2.2⟩
   dsimp only
   rw [hYA]
   exact fin s1.heap.objs.size G2.objs.size s4 _ m I5 hn4 (I1.fpOk hCle (by rw [upd_ne (Ne.symm hDC)]; exact hCn)) (hq _ pD4.2.1)
  ·rw [← hYA]
   refine thn (T.item Y hYp hYw hYK hYca i _ s' σ' H' _ I3 (fpY fr3) st3 go) fun r s4 ⟨u, hr, h4⟩ => ?_
   subst hr
   dsimp only
   refine thn h4 fun _ s5 ⟨x, H5, I5, r5, y5, st5, fr5⟩ => ?_
   have I5' := I5.pinned (fpY fr5) (T.obj _ _ st5)
   have hgY := hg fp s1 H1 G2.objs.size
   have heY := he fp s1 H1 G2.objs.size
   have htY := ht fp s1 H1 G2.objs.size
   rw [hY] at hgY heY htY
   rw [← hYp, ← hYw]
   refine wpAny_mono (hgY _ s5 σ' H5 x u _ I5' r5 (step x H5 y5)) (fun _ s6 ⟨σ6, H6, I6, q6⟩ => ?_) (fun _ _ f => by rw [hYxe] at f; exact f.elim)
   refine wpAny_mono (htY _ s6 σ6 H6 _ I6 q6) (fun okb sT ⟨HT, IT, qT⟩ => ?_) (fun _ _ f => by rw [hYxe] at f; exact f.elim)
   have pDT := IT.pin (s1.heap.objs.size, lobj its c) (List.mem_append_right _ (List.mem_append_left _ (List.mem_singleton.mpr rfl)))
   have stT : tn (i + 1) sT.heap := T.keep _ _ _ st5 fun b hb o e => (IT.pin (b, o) (List.mem_append_right _ (List.mem_append_right _ (mem_pinsAt hb e)))).1
   cases okb with
   | false =>
    refine ⟨n - (i + 1), by omega, i + 1, made, σ6, HT, its, c, IT.unpinned, stT, fun b hb => ?_, rv, rfl, qT⟩
    obtain ⟨o, e, d⟩ := T.obj _ _ st5 b hb
    exact (IT.pin (b, o) (List.mem_append_right _ (List.mem_append_right _ (mem_pinsAt hb e)))).2.1
   | true =>
   refine wpAny_mono (heY _ sT σ6 HT _ IT qT) (fun v s7 ⟨y, H7, I7, r7, q7⟩ => ?_) (fun _ _ f => by rw [hYxe] at f; exact f.elim)
   have pD7 := I7.pin (s1.heap.objs.size, lobj its c) (List.mem_append_right _ (List.mem_append_left _ (List.mem_singleton.mpr rfl)))
   have e7 : s7.heap.get? s1.heap.objs.size = some { cls := .type "list", data := .seq its.toArray c } := pD7.1
   refine append_at (hsz := by rw [List.size_toArray, ← rv.length]; exact Nat.le_of_lt hz) e7 fun h' hs' hD' => ?_
   have I8 : Inv Y [] σ6 H7 s7 := I7.pins_of fun _ z => nomatch z
   have I9 : Inv Y [] σ6 H7 { s7 with heap := h' } := I8.turned (t' := s7.toks) (it := s1.heap.objs.size) (fun b o hb e => hs'.extBut b o hb e) pD7.2.1 (by rw [hYl]; exact hDC) (.inr (by rw [hYs]; exact Nat.le_refl _))
    (fun x c' e => Nat.ne_of_lt (clt x c' e)) (fun p hp => by rw [hYpn] at hp; cases hp)
   have eD : h'.get? s1.heap.objs.size = some (lobj (its ++ [v]) (c + 1)) := by rw [hD', List.push_toArray]
   have st7 : tn (i + 1) s7.heap := T.keep _ _ _ st5 fun b hb o e => (I7.pin (b, o) (List.mem_append_right _ (List.mem_append_right _ (mem_pinsAt hb e)))).1
   refine ⟨n - (i + 1), by omega, i + 1, made ++ [y], σ6, H7, its ++ [v], c + 1, I9.pins_of (pinD (s' := { s7 with heap := h' }) eD pD7.2.1), T.keep _ _ _ st7 fun b hb o e => hs'.extBut b o (Ne.symm (hDf b hb)) e, fun b hb => ?_, rv.append (.cons r7 .nil), rfl, q7⟩
   obtain ⟨o, e, d⟩ := T.obj _ _ st5 b hb
   exact (I7.pin (b, o) (List.mem_append_right _ (List.mem_append_right _ (mem_pinsAt hb e)))).2.1
 exact codeAny_compStart_list (loop _ rfl) (T.self _ 0 _ _ _ (T.keep _ _ _ st1 fun b _ o e => old b o e) (loop _ rfl))
theorem pe_comp {elt tg iter : Expr} {pos : Pos} {wi : TI} {g : TG} {te : TE} (hc : X.calm = true) (S : CompSc X scope xs ys is) (hi : PI X tg iter wi)
 (hg : ∀ fp s1 H1 C, PG (compCx X (xs ++ ys) scope (clOf X.env ys) fp s1 H1 C) tg g) (he : ∀ fp s1 H1 C, PE (compCx X (xs ++ ys) scope (clOf X.env ys) fp s1 H1 C) elt te)
 (hs : ∀ x, foldedSetIterable iter X.env x = pure x := by intro _; rfl) :
 PE X (.ListComp elt [⟨tg, iter, [], 0⟩] scope pos) (tComp wi xs.length g te is) := by
 intro pins s σ H Q I h
 rw [eval_ListComp]
 exact comp_core (use := none) (Q := Q) hc S hi hg (fun _ _ _ _ => pif_nil) he hs I h (fun D C s4 H4 m I5 hn ⟨g0, g1, _, g3, g4, g5⟩ q => ⟨m, hn, fun h' hs' => ⟨.ref D, H4, I5.turned (t' := s4.toks) (it := C) (fun b o hb e => hs'.extBut b o hb e) g0 g1 g3 g4 g5, rfl, q⟩⟩)
theorem pe_compIf {elt tg iter tst : Expr} {pos : Pos} {wi : TI} {g : TG} {te : TE} {tt : TT} (hc : X.calm = true) (S : CompSc X scope xs ys is) (hi : PI X tg iter wi)
 (hg : ∀ fp s1 H1 C, PG (compCx X (xs ++ ys) scope (clOf X.env ys) fp s1 H1 C) tg g) (ht : ∀ fp s1 H1 C, PT (compCx X (xs ++ ys) scope (clOf X.env ys) fp s1 H1 C) tst tt) (he : ∀ fp s1 H1 C, PE (compCx X (xs ++ ys) scope (clOf X.env ys) fp s1 H1 C) elt te)
 (hs : ∀ x, foldedSetIterable iter X.env x = pure x := by intro _; rfl) :
 PE X (.ListComp elt [⟨tg, iter, [tst], 0⟩] scope pos) (tCompIf wi xs.length g tt te is) := by
 intro pins s σ H Q I h
 rw [eval_ListComp]
 exact comp_core (use := none) (Q := Q) hc S hi hg (fun fp s1 H1 C => pif_one (ht fp s1 H1 C)) he hs I h (fun D C s4 H4 m I5 hn ⟨g0, g1, _, g3, g4, g5⟩ q => ⟨m, hn, fun h' hs' => ⟨.ref D, H4, I5.turned (t' := s4.toks) (it := C) (fun b o hb e => hs'.extBut b o hb e) g0 g1 g3 g4 g5, rfl, q⟩⟩)
end
end L2
set_option maxHeartbeats 4000000
namespace L2
open PySem PySem.Spec PyProof.Rows
theorem same_upd {H : Hp} {p : Addr} {o : HO} (h : H p = none) : Same H (upd H p o) := fun b u e => by rw [upd_ne (ne_of_none e h)]; exact e
theorem rep_toList (a : Array Nat) : ∀ (n : Nat) (acc : Array Nat), ((List.replicate n a).foldl (· ++ ·) acc).toList = acc.toList ++ (List.replicate n a.toList).flatten
 | 0, acc => by simp
 | n + 1, acc => by
  rw [List.replicate_succ, List.foldl_cons, rep_toList a n, List.replicate_succ, List.flatten_cons, Array.toList_append, List.append_assoc]
theorem paired_of {α β : Type} {R : α → β → Prop} : ∀ (xs : List α) (us : List β), xs.length = us.length → (∀ (j : Nat) x u, xs[j]? = some x → us[j]? = some u → R x u) → Paired R xs us
 | [], [], _, _ => .nil
 | [], _ :: _, h, _ => by simp at h
 | _ :: _, [], h, _ => by simp at h
 | x :: xs, u :: us, h, k => .cons (k 0 x u rfl rfl) (paired_of xs us (by simpa using h) fun j x' u' h1 h2 => k (j + 1) x' u' (by simpa using h1) (by simpa using h2))
section
variable {X : Cx}
theorem range_all (bs : List Bool) : (List.range bs.length).all (fun i => (bs[i]?).getD true) = bs.all id := by
 rw [Bool.eq_iff_iff, List.all_eq_true, List.all_eq_true]
 constructor
 ·intro h b hb
  obtain ⟨i, hi, e⟩ := List.getElem_of_mem hb
  have q := h i (List.mem_range.mpr hi)
  rw [List.getElem?_eq_getElem hi, Option.getD_some, e] at q
  exact q
 ·intro h i hi
  have hi' := List.mem_range.mp hi
  rw [List.getElem?_eq_getElem hi', Option.getD_some]
  exact h _ (List.getElem_mem hi')
theorem call_all (hc : X.calm = true) : CallR X (.builtin "all") (fun xs H Q => ∃ (p : Addr) (bs : List Bool), xs = [.ref p] ∧ SqL X.K H p (bs.map V.bl) ∧ Q (.bl (bs.all id)) H) := by
 intro pins s σ H xs us Q I r h
 obtain ⟨p, bs, rfl, hp, q⟩ := h
 obtain ⟨u, rfl, ru⟩ := vals1 r
 cases ru
 obtain ⟨its, rv, pl, hz⟩ := I.list hp
 have hlt : p < s.heap.objs.size := by obtain ⟨_, e, _⟩ := pl.isList; exact Heap.lt_size e
 have hlen : its.length = bs.length := by rw [← rv.length, List.length_map]
 refine call_all_walk (wpAny_pyIter_list pl.isList ?_)
 refine ⟨s.heap.objs.size, _, _, its.toArray.size, _, _, fun i => (bs[i]?).getD true, rfl, Walks.list (A := X.A.in1) (I.ok.hd hc) s.heap.objs.size p (Nat.ne_of_lt hlt) its.toArray, ⟨⟨_, Heap.get?_push_size _ rfl, rfl, rfl⟩, pl.isList.push _⟩, fun i v s2 Q2 E2 hP hQ => ?_, fun h' tk hk => ?_⟩
 ·have hv : its[i]? = some v := by simpa using hP
  have hi : i < bs.length := by rw [← hlen]; exact (List.getElem?_eq_some_iff.mp hv).1
  obtain ⟨u, hu, ru⟩ := rv.get (i := i) (x := V.bl bs[i]) (by rw [List.getElem?_map, List.getElem?_eq_getElem hi]; rfl)
  rw [hv] at hu
  cases hu
  have e : v = Value.bool bs[i] := ru
  rw [e]
  have q2 : Q2 ((bs[i]?).getD true) s2 := hQ
  rw [List.getElem?_eq_getElem hi, Option.getD_some] at q2
  exact wpAny_truthy_bool q2
 ·rw [List.size_toArray, hlen, range_all]
  exact ⟨.bl (bs.all id), H, I.kept fun b o e => hk b o (by simp; exact Nat.ne_of_lt (Heap.lt_size e)) (Heap.get?_push_of_some _ e), rfl, q⟩
theorem op_is_bl : OpR X (compareOp .Is) (fun x y H Q => ∃ c d, x = .bl c ∧ y = .bl d ∧ Q (.bl (c == d)) H) := by
 intro pins s σ H x y v u Q I rx ry h
 obtain ⟨c, d, rfl, rfl, q⟩ := h
 cases rx
 cases ry
 exact is_bool (fin_bl I q rfl)
theorem op_isnot_bl : OpR X (compareOp .IsNot) (fun x y H Q => ∃ c d, x = .bl c ∧ y = .bl d ∧ Q (.bl (c != d)) H) := by
 intro pins s σ H x y v u Q I rx ry h
 obtain ⟨c, d, rfl, rfl, q⟩ := h
 cases rx
 cases ry
 exact isnot_bool (fin_bl I q rfl)
def Its (z : Str) : It := ⟨fun i _ => i < z.cps.size, fun i H x H' => H' = H ∧ ∃ c, z.cps[i]? = some c ∧ x = .str ⟨#[c]⟩, fun i _ => z.cps.size ≤ i⟩
theorem turn_str {P : Program} {w : World} {K : PySem.W.Frag} {tg : Expr} (z : Str) (t : Tok) (it : Addr) (ty : String) (hty : ty = "str_ascii_iterator" ∨ ty = "str_iterator") : Turn P w K tg (Its z) [it] it (fun i h => h.IsStrIter it ty z t i ∧ i ≤ z.cps.size) where
 mem := by simp
 obj := fun i h st b hb => by
  have e : b = it := by simpa using hb
  subst e
  obtain ⟨⟨o, e, c, d⟩, _⟩ := st
  exact ⟨o, e, fun v z => by rw [d] at z; cases z⟩
 keep := fun i h h' st k => ⟨by obtain ⟨⟨o, e, r⟩, _⟩ := st; exact ⟨o, k it (by simp) o e, r⟩, st.2⟩
 item := by
  intro X hP hw hK hc i pins s σ H E I hf st hg
  subst hP hw hK
  obtain ⟨f0, f1, f2, f3, f4, f5⟩ := hf it (by simp)
  have hi : i < z.cps.size := hg
  have fin : ∀ (v : Value) (h' : Heap) (tk : Nat), SignAt z i v → h'.IsStrIter it ty z t (i + 1) → (∀ b o, b ∉ [it] → s.heap.get? b = some o → h'.get? b = some o) →
   ∃ u, (some v : Option Value) = some u ∧ wpAny (model X.prog X.w) X.A (letOwnedTupleGo tg (.ref it) u) (fun _ s2 => ∃ x H', Inv X pins σ H' s2 ∧ RelV x u ∧ (Its z).yld i H x H' ∧ (s2.heap.IsStrIter it ty z t (i + 1) ∧ i + 1 ≤ z.cps.size) ∧ ∀ b ∈ [it], H' b = none) E { s with heap := h', toks := tk } := by
   intro v h' tk hv st' kk
   obtain ⟨c, u, hc, rfl⟩ := hv
   have I1 : Inv X pins σ H { s with heap := h', toks := tk } := I.turned (fun b o hb e => kk b o (by simpa using hb) e) f0 f1 f3 f4 f5
   obtain ⟨o, e, c', d⟩ := id st'
   exact ⟨_, rfl, go_of (s := { s with heap := h', toks := tk }) e c' d (by rcases hty with rfl | rfl <;> decide) ⟨.str ⟨#[c]⟩, H, I1, ⟨u, rfl⟩, ⟨rfl, c, hc, rfl⟩, ⟨st', hi⟩, fun b hb => (hf b hb).1⟩⟩
  rcases hty with rfl | rfl
  ·exact (Walks.strAscii (prog := X.prog) (w := X.w) (I.ok.hd hc) it z t).item i s _ _ hi st.1 fun v h' tk hv st' kk => fin v h' tk hv st' kk
  ·exact (Walks.strWide (prog := X.prog) (w := X.w) (I.ok.hd hc) it z t).item i s _ _ hi st.1 fun v h' tk hv st' kk => fin v h' tk hv st' kk
 done := by
  intro X hP hw hK hc i pins s σ H E I hf st hg
  subst hP hw hK
  obtain ⟨f0, f1, f2, f3, f4, f5⟩ := hf it (by simp)
  have hi : i = z.cps.size := Nat.le_antisymm st.2 hg
  subst hi
  rcases hty with rfl | rfl
  ·exact (Walks.strAscii (prog := X.prog) (w := X.w) (I.ok.hd hc) it z t).done s _ _ st.1 fun h' tk kk => ⟨rfl, I.turned (fun b o hb e => kk b o (by simpa using hb) e) f0 f1 f3 f4 f5⟩
  ·exact (Walks.strWide (prog := X.prog) (w := X.w) (I.ok.hd hc) it z t).done s _ _ st.1 fun h' tk kk => ⟨rfl, I.turned (fun b o hb e => kk b o (by simpa using hb) e) f0 f1 f3 f4 f5⟩
 self := fun A i s Q E st h => by
  rcases hty with rfl | rfl
  ·exact wpAny_pyIter_striter_ascii st.1 h
  ·exact wpAny_pyIter_striter_wide st.1 h
def iStr (tl : TE) : TI := fun σ H R => tl σ H fun x H1 => ∃ z, x = .str z ∧ R (Its z) H1
theorem pi_str {tg l : Expr} {tl : TE} (hl : PE X l tl) : PI X tg l (iStr tl) := by
 intro pins s σ H R I h
 refine thn (hl pins s σ H _ I h) fun v s1 ⟨x, H1, I1, r1, q1⟩ => ?_
 obtain ⟨z, e, q⟩ := q1
 subst e
 obtain ⟨t, rfl⟩ := r1
 have fin : ∀ ty : String, (ty = "str_ascii_iterator" ∨ ty = "str_iterator") → PIE X pins σ tg R (.ref s1.heap.objs.size) { s1 with heap := s1.heap.push { cls := .type ty, data := .fields #[.str z t, .int 0 0] } } := fun ty hty => by
  refine ⟨s1.heap.objs.size, [s1.heap.objs.size], _, _, H1, rfl, I1.kept (t' := s1.toks) fun b o e => Heap.get?_push_of_some _ e, turn_str z t _ ty hty, ⟨⟨_, Heap.get?_push_size _ rfl, rfl, rfl⟩, Nat.zero_le _⟩, fun b hb => ?_, q⟩
  have e : b = s1.heap.objs.size := by simpa using hb
  subst e
  exact I1.fpOk (Nat.le_refl _) (I1.hok.fresh (Nat.le_refl _))
 cases ha : z.cps.all (· < 128)
 ·exact wpAny_pyIter_wide ha (fin _ (.inr rfl))
 ·exact wpAny_pyIter_ascii ha (fin _ (.inl rfl))
def rSlS : V → Option Int → Option Int → Hp → VK → Prop := fun x lo hi H Q => ∃ z, x = .str z ∧ z.length ≤ sizeLine ∧ Q (.str (Txt.slice z lo hi)) H
theorem sl_str : SlR X rSlS := by
 intro pins s σ H x v vl vu lo hi sl Q I rx hs pl pu h
 obtain ⟨z, rfl, hz, q⟩ := h
 obtain ⟨t, rfl⟩ := rx
 refine ⟨"str", _, F.slot_str_getitem.lookup, typeIs_str _ _ _, ?_⟩
 have fin : ∀ t' k, EP X pins σ Q (.str (Txt.slice z lo hi) t') { s with toks := k } := fun t' k => ⟨.str _, H, I.tok k, ⟨t', rfl⟩, q⟩
 cases pl with
 | none =>
  cases pu with
  | none => exact wpAny_getItem_str_slice (l := none) (u := none) (st := none) hs rfl (post_val_or_str ⟨Nat.le_trans (Txt.slice_le z _ _) hz, fin⟩)
  | int j uj => exact wpAny_getItem_str_slice (l := none) (u := some (j, uj)) (st := none) hs rfl (post_val_or_str ⟨Nat.le_trans (Txt.slice_le z _ _) hz, fin⟩)
 | int i ui =>
  cases pu with
  | none => exact wpAny_getItem_str_slice (l := some (i, ui)) (u := none) (st := none) hs rfl (post_val_or_str ⟨Nat.le_trans (Txt.slice_le z _ _) hz, fin⟩)
  | int j uj => exact wpAny_getItem_str_slice (l := some (i, ui)) (u := some (j, uj)) (st := none) hs rfl (post_val_or_str ⟨Nat.le_trans (Txt.slice_le z _ _) hz, fin⟩)
def repS (x : Str) (n : Nat) : Str := ⟨(List.replicate n x.cps).foldl (· ++ ·) #[]⟩
theorem op_mul_str : OpR X (binaryOp .Mult) (fun x y H Q => ∃ z n, x = .str z ∧ y = .int n ∧ 1 < n ∧ n < 1000 ∧ 0 < z.length ∧ z.length < 1000 ∧ Q (.str (repS z n.toNat)) H) := by
 intro pins s σ H x y v u Q I rx ry h
 obtain ⟨z, n, rfl, rfl, h1, h2, h3, h4, q⟩ := h
 obtain ⟨t, rfl⟩ := rx
 obtain ⟨t', rfl⟩ := ry
 have e1 : ¬ n < 1 := by omega
 have e2 : (n == 1 || z.length == 0) = false := by
  rw [Bool.or_eq_false_iff]
  exact ⟨beq_eq_false_iff_ne.mpr (by omega), beq_eq_false_iff_ne.mpr (by omega)⟩
 have hb : z.length * n.toNat ≤ 1000 * 1000 := Nat.mul_le_mul (by omega) (by omega)
 refine PySem.P.mul_str (by rw [decide_eq_false (by omega), decide_eq_false (by omega)]; rfl) (fun _ _ => ?_) (fun _ _ => ?_) ?_
 ·have : (2 ^ 63 - 1 : Int) / n ≥ (2 ^ 63 - 1) / 1000 := by
   rw [ge_iff_le, Int.le_ediv_iff_mul_le (by omega)]
   have : (2 ^ 63 - 1 : Int) / 1000 * n ≤ (2 ^ 63 - 1 : Int) / 1000 * 1000 := Int.mul_le_mul_of_nonneg_left (by omega) (by decide)
   omega
  omega
 ·show Builtin.Str.tooLong _ = false
  unfold Builtin.Str.tooLong
  have hsl : (1000000 : Nat) ≤ sizeLine := by decide
  exact decide_eq_false (by omega)
 ·rw [if_neg e1, if_neg (by rw [e2]; exact Bool.false_ne_true)]
  refine ⟨?_, ⟨.str (repS z n.toNat), H, I.tok _, ⟨_, rfl⟩, q⟩⟩
  have e := congrArg List.length (rep_toList z.cps n.toNat #[])
  rw [List.length_append, len_rep, Array.length_toList, Array.length_toList] at e
  have e' : ((List.replicate n.toNat z.cps).foldl (· ++ ·) #[]).size = n.toNat * z.length := by rw [e]; simp [Str.length]
  show ((List.replicate n.toNat z.cps).foldl (· ++ ·) #[]).size ≤ sizeLine
  rw [e', Nat.mul_comm]
  exact Nat.le_trans hb (by decide)
theorem call_list_of_str (hc : X.calm = true) : CallR X (.type "list") (fun xs H Q => ∃ z, xs = [.str z] ∧ z.length ≤ sizeLine ∧ ∀ l, H l = none → Q (.ref l) (upd H l (.lst (z.cps.toList.map fun c => V.str ⟨#[c]⟩)))) := by
 intro pins s σ H xs us Q I r h
 obtain ⟨z, rfl, hz, q⟩ := h
 obtain ⟨u, rfl, rx⟩ := vals1 r
 obtain ⟨t, rfl⟩ := rx
 refine call_list_str (I.ok.hd hc) z t (fun h' tk acc' c' kp e ha => ?_) hz
 have rv : Vals (z.cps.toList.map fun c => V.str ⟨#[c]⟩) acc'.toList := by
  refine paired_of _ _ (by rw [List.length_map, Array.length_toList, Array.length_toList]; exact ha.1.symm) fun j x u h1 h2 => ?_
  obtain ⟨c, t', hc, rfl⟩ := ha.2 j u (by rw [← Array.getElem?_toList]; exact h2)
  rw [List.getElem?_map, Array.getElem?_toList, hc] at h1
  have e1 : V.str ⟨#[c]⟩ = x := Option.some.inj h1
  subst e1
  exact ⟨t', rfl⟩
 exact ⟨.ref s.heap.objs.size, _, I.laid (t' := tk) kp (Nat.le_refl _) (show ObjOk X.prog X.w _ h' _ (.lst _) from ⟨by rw [List.length_map]; exact hz, acc'.toList, c', rv, by simpa using e⟩), rfl, q _ (I.hok.fresh (Nat.le_refl _))⟩
end
end L2
set_option maxHeartbeats 4000000
namespace Cw
open PySem L2
def sgn (c : Nat) : Bool := c == 35 || (48 ≤ c && c ≤ 57)
def rowB : V → Bool
 | .str z => decide (1 ≤ z.cps.toList.length) && decide (z.cps.toList.length ≤ 12) && z.cps.toList.all sgn
 | _ => false
def lenV : V → Nat
 | .str z => z.cps.toList.length
 | _ => 0
section
variable {K : PySem.W.Frag}
abbrev kit (K : PySem.W.Frag) (t n : String) (b : Bool) : Prop := PySem.W.kitOne K (.type t) (.type n) = some b
theorem kit_same {K : PySem.W.Frag} (t : String) : kit K t t true := by unfold kit PySem.W.kitOne; rw [if_pos (by simp)]
theorem kit_of {t n : String} {b : Bool} (h0 : (Value.type t == Value.type n) = false) (h1 : PySem.W.kitMeta n = true) (h2 : (fastBuiltinMro t).map (·.contains (Value.type n)) = some b) : kit K t n b := by
 unfold kit PySem.W.kitOne
 rw [if_neg (by rw [h0]; exact Bool.false_ne_true)]
 show (if PySem.W.kitMeta n = true then PySem.W.subIn K (.type t) (.type n) else none) = some b
 rw [if_pos h1]
 exact h2
end
abbrev SIGNS : Str := "#0123456789"
end Cw
set_option maxHeartbeats 4000000
namespace L2
open PySem PySem.Spec PyProof.Rows
section
variable {X : Cx} {pos : Pos}
end
end L2
set_option maxHeartbeats 4000000
namespace L2
open PySem PySem.Spec PyProof.Rows
structure XCls (K : PySem.W.Frag) (C : Addr) : Prop where
 ga : PySem.W.findIn K (.ref C) "__getattribute__" = some (some (.builtin "BaseException.__getattribute__"))
 hk : PySem.W.findIn K (.ref C) "__getattr__" = some none
 cl : PySem.W.findIn K (.ref C) "__class__" = some (some (.builtin "object.__class__"))
 mo : PySem.W.mroIn K C (.type "object") = some true
 mb : PySem.W.mroIn K C (.type "BaseException") = some true
 is : (PySem.W.clsIn K C).isSome = true
section
variable {prog : Program} {w : World} {A : Around} {E : Value → Shared → Prop} {h : Heap} {g : Array GenState} {d : Drawn} {t : Nat} {os : OsState} {x C : Addr} {o : Obj} {K : PySem.W.Frag}
theorem xc_get {R : Result → Shared → Prop} (X : K.In h) (Z : XCls K C) (hx : h.get? x = some o) (hc : o.cls = .ref C) (hq : R (.ok (.ret (.ref C))) ⟨h, g, d, t, os⟩) :
 codeAny (model prog w) A (.call (.builtin "getset_descriptor.__get__") ⟨[.builtin "object.__class__", .ref x, .ref C], []⟩) R ⟨h, g, d, t, os⟩ := by
 have hY : (⟨h, g, d, t, os⟩ : Shared).TypeIs (.builtin "object.__class__") "getset_descriptor" := F.typeOf_object_class
 have LM : PySem.W.Looks (model prog w) h (isSubtype (.ref C) (.type (".".intercalate ("object.__class__".cutAt '.').dropLast))) true := by
  rw [F.owner_object_class]
  exact PySem.W.looks_mroIn X Z.mo
 refine codeAny_call_builtin F.slot_gs_get.plain F.entry_gs_get (F.slot_gs_get.check _ _ _ _ _ _ _ _ hY (F.args_gs_get _ _ _) ?_)
 repeat (any_goals (first | assumption | (with_reducible refine wpAny_loadPart_at hx ?_; rw [hc]) | (with_reducible refine LM.at ?_) | wp_step))
 refine ⟨Code.quiet_builtin _ (show _ by decide +kernel), codeAny_builtin F.entry_object_class ?_⟩
 repeat (any_goals (first | assumption | (with_reducible refine wpAny_loadPart_at hx ?_; rw [hc]) | wp_step))
theorem xc_entry {tk : Tok} {Q : Fin → Shared → Prop} (X : K.In h) (Z : XCls K C) (hx : h.get? x = some o) (hc : o.cls = .ref C) (hq : Q (.done (.ret (.ref C))) ⟨h, g, d, t, os⟩) :
 wpAny (model prog w) A (Builtin.«object.__getattribute__» ⟨[.ref x, .str "__class__" tk], []⟩) Q E ⟨h, g, d, t, os⟩ := by
 have hY : (⟨h, g, d, t, os⟩ : Shared).TypeIs (.builtin "object.__class__") "getset_descriptor" := F.typeOf_object_class
 have y5 := F.typeOf_object_class
 have y6 := F.slot_gs_get.lookup
 have y7 := F.slot_gs_set.lookup
 have LC := PySem.W.looks_findIn (M := model prog w) X Z.cl
 repeat (any_goals (first | assumption | (with_reducible refine wpAny_loadPart_at hx ?_; rw [hc]) | (with_reducible refine LC.at ?_) | wp_step))
 refine xc_get X Z hx hc ?_
 repeat (any_goals (first | assumption | wp_step))
theorem xc_check {M : Model} {nameV : Value} {Q : Unit → Shared → Prop} (X : K.In h) (Z : XCls K C) (hx : h.get? x = some o) (hc : o.cls = .ref C) (hq : Q () ⟨h, g, d, t, os⟩) :
 wpAny M A (checkBuiltinCall "BaseException.__getattribute__" ⟨[.ref x, nameV], []⟩) Q E ⟨h, g, d, t, os⟩ := by
 have h1 : builtinKind "BaseException.__getattribute__" = some .slot := by decide +kernel
 have h2 : splitId "BaseException.__getattribute__" = some ("BaseException", "__getattribute__") := by decide +kernel
 have LB := PySem.W.looks_mroIn (M := M) X Z.mb
 have h3 := F.args_bexc_ga (.ref x) nameV
 simp only [checkBuiltinCall, h1, h2]
 refine wpAny_bind ?_
 unfold isInstance
 repeat (first | (with_reducible refine wpAny_loadPart_at hx ?_; rw [hc]) | (with_reducible refine LB.at ?_) | wp_step)
 exact hq
theorem xc_by {tk : Tok} {Q : Value → Shared → Prop} (X : K.In h) (Z : XCls K C) (hx : h.get? x = some o) (hc : o.cls = .ref C) (hq : Q (.ref C) ⟨h, g, d, t, os⟩) :
 wpAny (model prog w) A (getAttrBy (.ref x) (.str "__class__" tk) false) Q E ⟨h, g, d, t, os⟩ := by
 have y3 := F.excAttr_ValueError.ga.bind (.ref x)
 have y4 : (Value.builtin "BaseException.__getattribute__" == Value.builtin "object.__getattribute__") = false := by decide +kernel
 have y5 : (onTheHeap (Value.ref C) && Value.builtin "BaseException.__getattribute__" == Value.builtin "object.__getattribute__") = false := by rw [y4]; rfl
 have LG := PySem.W.looks_findIn (M := model prog w) X Z.ga
 have LH := PySem.W.looks_findIn (M := model prog w) X Z.hk
 repeat (any_goals (first | assumption | (with_reducible refine wpAny_loadPart_at hx ?_; rw [hc]) | (with_reducible refine LG.at ?_) | (with_reducible refine LH.at ?_) | wp_step))
 refine codeAny_call_builtin F.excAttr_ValueError.ga.plain F.entry_bexc_ga (xc_check X Z hx hc (xc_entry X Z hx hc ?_))
 repeat (any_goals (first | assumption | wp_step))
theorem xc_attr {Q : Option Value → Shared → Prop} (X : K.In h) (Z : XCls K C) (hx : h.get? x = some o) (hc : o.cls = .ref C) (hq : Q (some (.ref C)) ⟨h, g, d, t + 1, os⟩) :
 wpAny (model prog w) A (getAttr? (.ref x) "__class__") Q E ⟨h, g, d, t, os⟩ := by
 unfold getAttr? getAttrBy?
 repeat (any_goals (first | assumption | with_reducible apply xc_by X Z hx hc | wp_step))
end
theorem kitx_exc {K : PySem.W.Frag} {x C : Addr} (Z : XCls K C) : PySem.W.KitX K (.ref x) (.ref C) (fun h => ∃ ob, h.get? x = some ob ∧ ob.cls = .ref C) where
 ty := fun M h _ p => by
  obtain ⟨ob, h1, h2⟩ := p
  exact h2 ▸ (PySem.W.Looks.ld h1).andThen .now
 it := fun M h X _ => by
  obtain ⟨cd, hcd⟩ := Option.isSome_iff_exists.mp Z.is
  unfold PySem.W.clsIn at hcd
  split at hcd
  ·rename_i c1 d1 cd1 sl1 ho
   intro A' Q' E' s' k q
   unfold isType loadHead
   exact wpAny_bind (wpAny_loadPart (k _ _ (X _ _ ho)) (wpAny_pure q))
  ·cases hcd
 ne := fun h tp dd its n sl X htp => by
  obtain ⟨cd, hcd⟩ := Option.isSome_iff_exists.mp Z.is
  refine Bool.eq_false_iff.mpr fun q => ?_
  have e : C = tp := Value.ref.inj (beq_iff_eq.mp q)
  subst e
  unfold PySem.W.clsIn at hcd
  split at hcd
  ·rename_i c1 d1 cd1 sl1 ho
   have z := (X _ _ ho).symm.trans htp
   cases z
  ·cases hcd
 ca := fun {prog w A E Q s} X p k => by
  obtain ⟨ob, h1, h2⟩ := p
  obtain ⟨hh, gg, dd, tt, oo⟩ := s
  exact xc_attr X Z h1 h2 k
section
variable {X : Cx}
theorem call_isxC : CallR X (.builtin "isinstance") (fun xs H Q => ∃ (a C D : Addr) (b : Bool), xs = [.ref a, .ref D] ∧ H a = some (excO a C) ∧ XCls X.K C ∧ PySem.W.kitOne X.K (.ref C) (.ref D) = some b ∧ Q (.bl b) H) := by
 intro pins s σ H xs us Q I r h
 obtain ⟨a, C, D, b, rfl, ha, Z, e, q⟩ := h
 obtain ⟨u, u2, rfl, ru, ru2⟩ := vals2 r
 cases ru
 cases ru2
 obtain ⟨⟨ob, vs, h1, h2, _⟩, _⟩ := I.hok _ _ ha
 exact PySem.W.kia_one (kitx_exc Z) I.kIn ⟨ob, h1, h2⟩ e (fun z => nomatch z) fun tk => ⟨.bl b, H, I.tok tk, rfl, q⟩
theorem call_isxT : CallR X (.builtin "isinstance") (fun xs H Q => ∃ (a C : Addr) (n : String) (b : Bool), xs = [.ref a, .ty n] ∧ H a = some (excO a C) ∧ XCls X.K C ∧ PySem.W.kitOne X.K (.ref C) (.type n) = some b ∧ Q (.bl b) H) := by
 intro pins s σ H xs us Q I r h
 obtain ⟨a, C, n, b, rfl, ha, Z, e, q⟩ := h
 obtain ⟨u, u2, rfl, ru, ru2⟩ := vals2 r
 cases ru
 cases ru2
 obtain ⟨⟨ob, vs, h1, h2, _⟩, _⟩ := I.hok _ _ ha
 exact PySem.W.kia_one (kitx_exc Z) I.kIn ⟨ob, h1, h2⟩ e (fun z => nomatch z) fun tk => ⟨.bl b, H, I.tok tk, rfl, q⟩
theorem pe_globR {x : Str} {a : Addr} {pos : Pos} (hg : Gl X x) (hm : X.mg x = some (.ref a)) (hd : (x == ("__debug__" : Str)) = false := by decide) : PE X (.Name x pos) (tC (.ref a)) := pe_glob hg hm rfl hd
theorem pe_tyValueError {pos : Pos} (hg : Gl X "ValueError") (hm : X.mg "ValueError" = none) : PE X (.Name "ValueError" pos) (tC (.ty "ValueError")) := pe_bltn hg hm (u := .type "ValueError") (by decide +kernel) rfl
end
end L2
set_option maxHeartbeats 4000000
namespace L2
open PySem PySem.Spec PyProof.Rows
section
variable {X : Cx} {pins : List (Addr × Obj)} {σ : St} {H : Hp} {s : Shared}
theorem gone_ok {M : Model} {A : Around} {E : Value → Shared → Prop} {i : Nat} {x : Str} {pos : Pos} {Q : Unit → Shared → Prop} (I : Inv X pins σ H s) (hN : X.N.Nodup) (hi : X.N[i]? = some x) (hk : X.env.scope.names.lookup x = some .local)
 (h : ∀ s', Inv X pins (σ.set i none) H s' → Q () s') : wpAny M A (do bindName X.env x .none; unbindBehindTheSuite X.env x pos) Q E s := by
 obtain ⟨m, hn, hl⟩ := id I.loc
 have hcls : (X.env.scope.kind == .class || (X.env.scope.kind == .module && X.env.locals != X.env.globals)) = false := by rw [I.ok.kind]; rfl
 have hiσ : i < σ.length := by rw [I.len]; exact (List.getElem?_eq_some_iff.mp hi).1
 have cne := I.cne
 have tracked : ∀ {a : Addr} {h' : Heap}, (∃ o, s.heap.get? a = some o ∧ H a = none) → Heap.SameBut a s.heap h' → HOk X.prog X.w H h' := fun {a h'} ha hs b ob e => by
  obtain ⟨_, _, hfree⟩ := ha
  refine (I.hok b ob e).stay (fun c w' hc q => (hs.2 c ?_).trans q) (fun _ q => q) fun _ _ q => q
  rintro rfl
  rcases hc with rfl | hc
  ·rw [hfree] at e; cases e
  ·rw [hfree] at hc; cases hc
 refine wpAny_nameGoes_keeps hk hn hcls fun h' v0 hn' hs => ?_
 obtain ⟨oL, _, _, hoL, _⟩ := id hn
 refine h _ ⟨I.ok, I.os, I.bare, ⟨fun b o e n hb hx => ?_, fun b o e n hb hx => ?_, I.base.free, fun b o e hx => ?_, I.base.tups, I.base.frzs, I.base.tbls⟩, ⟨_, hn', fun j y v' e1 e2 e3 => ?_⟩, fun y c e => ?_, I.free, I.freeC, fun p hp => ?_, tracked ⟨oL, hoL, I.free⟩ hs, by simpa using I.len⟩
 ·exact (hs.2 b (Nat.ne_of_lt (Nat.lt_of_lt_of_le (Heap.lt_size e) I.ok.above))).trans (I.base.keep b o e n hb hx)
 ·obtain ⟨sl, e1⟩ := I.base.slot b o e n hb hx
  exact ⟨sl, (hs.2 b (Nat.ne_of_lt (Nat.lt_of_lt_of_le (Heap.lt_size e) I.ok.above))).trans e1⟩
 ·obtain ⟨o', e1⟩ := I.base.there b o e hx
  exact ⟨o', (hs.2 b (Nat.ne_of_lt (Nat.lt_of_lt_of_le (Heap.lt_size e) I.ok.above))).trans e1⟩
 ·by_cases hj : j = i
  ·subst hj
   rw [List.getElem?_set_self hiσ] at e2
   cases e2
  ·rw [List.getElem?_set_ne (Ne.symm hj)] at e2
   obtain ⟨u', r', q⟩ := hl j y v' e1 e2 e3
   refine ⟨u', r', ?_⟩
   rcases q with ⟨k, e⟩ | ⟨k, c, e, z⟩
   ·refine .inl ⟨k, ?_⟩
    have : y ≠ x := fun e => hj (nodup_ix hN e1 (e ▸ hi))
    simp [this, e]
   ·exact .inr ⟨k, c, e, z.sameBut hs (cne y c e)⟩
 ·obtain ⟨w', z⟩ := I.cell y c e
  exact ⟨w', z.sameBut hs (cne y c e)⟩
 ·obtain ⟨e, n, ne, nf, d⟩ := I.pin p hp
  exact ⟨(hs.2 p.1 ne).trans e, n, ne, nf, d⟩
abbrev Cx.with1 (X : Cx) (pn : List (Addr × Obj)) (xe : Value → Shared → Prop) : Cx := { X with pn := pn, xe := xe }
abbrev Cx.marked (X : Cx) (a : Addr) (pn : List (Addr × Obj)) : Cx := { X with A := X.A.mark (some (.ref a)), calm := false, pn := pn, xe := fun _ _ => False }
theorem ok_with1 {pn : List (Addr × Obj)} {xe : Value → Shared → Prop} (o : X.Ok) : (X.with1 pn xe).Ok := ⟨o.mod, o.kind, o.glob, o.blt, o.above, o.inj, o.has, o.cab, o.hd, o.frames, o.stk, o.exf, o.bs, o.bsz, o.noex, o.exfs, o.funs, o.frf⟩
theorem ok_marked {a : Addr} {pn : List (Addr × Obj)} (o : X.Ok) : (X.marked a pn).Ok := ⟨o.mod, o.kind, o.glob, o.blt, o.above, o.inj, o.has, o.cab, (fun h => nomatch h), o.frames, o.stk, o.exf, o.bs, o.bsz, o.noex, o.exfs, o.funs, o.frf⟩
theorem Inv.with1 {xe : Value → Shared → Prop} (I : Inv X pins σ H s) : Inv (X.with1 (X.pn ++ pins) xe) [] σ H s := ⟨ok_with1 I.ok, I.os, I.bare, I.base, I.loc, I.cell, I.free, I.freeC, fun p hp => I.pin p (by rwa [List.append_nil] at hp), I.hok, I.len⟩
theorem Inv.unwith1 {xe : Value → Shared → Prop} (o : X.Ok) {pins' : List (Addr × Obj)} (I : Inv (X.with1 (X.pn ++ pins) xe) pins' σ H s) : Inv X pins σ H s := ⟨o, I.os, I.bare, I.base, I.loc, I.cell, I.free, I.freeC, fun p hp => I.pin p (List.mem_append_left _ hp), I.hok, I.len⟩
theorem Inv.mark {a : Addr} (I : Inv X pins σ H s) : Inv (X.marked a (X.pn ++ pins)) [] σ H s := ⟨ok_marked I.ok, I.os, I.bare, I.base, I.loc, I.cell, I.free, I.freeC, fun p hp => I.pin p (by rwa [List.append_nil] at hp), I.hok, I.len⟩
theorem Inv.unmark {a : Addr} (o : X.Ok) {pins' : List (Addr × Obj)} (I : Inv (X.marked a (X.pn ++ pins)) pins' σ H s) : Inv X pins σ H s := ⟨o, I.os, I.bare, I.base, I.loc, I.cell, I.free, I.freeC, fun p hp => I.pin p (List.mem_append_left _ hp), I.hok, I.len⟩
end
end L2
set_option maxHeartbeats 4000000
namespace L2
open PySem PySem.Spec PyProof.Rows
section
variable {X : Cx}
end
end L2
set_option maxHeartbeats 4000000
namespace L2
open PySem PySem.Spec PyProof.Rows
open PySem.AutoSeq1 (wpAny_loadPart')
theorem noFill_tuple_mul : fillsNumberSlot (.type "tuple") "mul" = pure false :=
 PySem.fillsNumberSlot_seq (id := "tuple.__mul__") (r := some (.builtin "tuple.__rmul__")) PySem.F.slot_tuple_mul.lookup (by decide +kernel) PySem.F.slot_tuple_rmul.lookup (by decide +kernel)
theorem repeat_tuple : seqRepeat? (.type "tuple") = pure (some (.builtin "tuple.__mul__")) := by
 unfold seqRepeat?
 rw [PySem.seqSlot_of (T := "tuple") (name := "__mul__") (id := "tuple.__mul__") PySem.F.slot_tuple_mul.lookup (by decide +kernel), PySem.seqSlot_of (T := "tuple") (name := "__rmul__") (id := "tuple.__rmul__") PySem.F.slot_tuple_rmul.lookup (by decide +kernel)]
 rfl
theorem int_rmul_tuple (a : Int) (t : Tok) (l : Addr) (items : Array Value) (n : Nat) (dd : Option Addr) (sl : Array (Option Value)) :
 Meets (Builtin.«int.__rmul__» ⟨[.int a t, .ref l], []⟩) (fun _ R s => s.heap.get? l = some { cls := .type "tuple", dict := dd, data := .seq items n, slots := sl } ∧ R (.ok (.ret Value.notImplemented)) s) :=
 .of_wp fun prog w A R s h => by obtain ⟨hp, g, d, tk, os⟩ := s; obtain ⟨hl, h⟩ := h; wp_walk; exact ⟨_, rfl, h⟩
theorem tuple_mulW (l : Addr) (items : Array Value) (n : Nat) (dd : Option Addr) (sl : Array (Option Value)) (x : Int) (u : Tok) (x1 : 1 < x) (x2 : x < 1000) (i1 : 0 < items.size) (i2 : items.size < 1000) :
 Meets (Builtin.«tuple.__mul__» ⟨[.ref l, .int x u], []⟩) (fun _ R s => s.heap.get? l = some { cls := .type "tuple", dict := dd, data := .seq items n, slots := sl } ∧
  R (.ok (.ret (Value.ref s.heap.objs.size))) { s with heap := s.heap.push { cls := Value.type "tuple", data := Data.seq (List.foldl (fun x1 x2 => x1 ++ x2) #[] (List.replicate x.toNat items)) }, toks := s.toks }) :=
 .of_wp fun prog w A R s h => by
  obtain ⟨hp, g, d, tk, os⟩ := s
  obtain ⟨hl, h⟩ := h
  have f1 := PySem.AutoSeq1.idx_int
  have f2 := PySem.AutoSeq1.sub_tuple_tuple
  have ie : items.isEmpty = false := by
   cases h : items.isEmpty with
   | false => rfl
   | true =>
    have := Array.isEmpty_iff.mp h
    subst this
    exact absurd i1 (by simp)
  wp_walk using wpAny_loadPart' hl
  refine wpAny_ite_false (decide_eq_false (by rw [Bool.or_eq_true, decide_eq_true_eq, decide_eq_true_eq]; omega)) ?_
  dsimp only
  wp_walk using wpAny_loadPart' hl
  refine wpAny_ite_false (decide_eq_false (by rw [ie, Bool.false_or, beq_iff_eq]; omega)) ?_
  refine wpAny_ite_false (decide_eq_false (by rw [ie, Bool.or_false, decide_eq_true_eq]; omega)) ?_
  have hm : (items.size : Int) * x ≤ 1000 * 1000 := by
   have e1 : (items.size : Int) * x ≤ 1000 * x := Int.mul_le_mul_of_nonneg_right (by omega) (by omega)
   omega
  have hm2 : items.size * x.toNat ≤ 1000 * 1000 := Nat.mul_le_mul (by omega) (by omega)
  have hs1 : (1000000 : Nat) ≤ sizeLine := by decide
  have hfs : (List.foldl (fun x1 x2 => x1 ++ x2) #[] (List.replicate x.toNat items)).size ≤ sizeLine := by
   have e := foldl_rep items.toList x.toNat []
   have e' : (items.toList).toArray = items := by simp
   rw [e', List.nil_append] at e
   have e2 : (List.foldl (fun x1 x2 => x1 ++ x2) #[] (List.replicate x.toNat items)) = (List.replicate x.toNat items.toList).flatten.toArray := e
   rw [e2, List.size_toArray, len_rep, Array.length_toList, Nat.mul_comm]
   omega
  refine wpAny_ite_false (decide_eq_false (by omega)) ?_
  refine wpAny_ite_false (decide_eq_false (by unfold Builtin.Tuple.tupleTooMany; simp; omega)) ?_
  wp_walk
  exact ⟨_, rfl, h⟩
theorem op_mulT {X : Cx} : OpR X (binaryOp .Mult) (fun x y H Q => ∃ a n xs, x = .ref a ∧ y = .int n ∧ SqT X.K H a xs ∧ 1 < n ∧ n < 1000 ∧ 0 < xs.length ∧ xs.length < 1000 ∧ ∀ p, H p = none → Q (.ref p) (upd H p (.tup (List.replicate n.toNat xs).flatten))) := by
 intro pins s σ H x y v u Q I rx ry h
 obtain ⟨a, n, xs, rfl, rfl, ha, h1, h2, h3, h4, q⟩ := h
 cases rx
 obtain ⟨t, rfl⟩ := ry
 obtain ⟨its, r, p1, _⟩ := I.tuple ha
 have hl := r.length
 obtain ⟨⟨cls, dd, data, sl⟩, ho, hc, k, hd⟩ := id p1
 simp only at hc hd
 subst hc hd
 have hnew : List.foldl (fun x1 x2 => x1 ++ x2) #[] (List.replicate n.toNat its.toArray) = (List.replicate n.toNat its).flatten.toArray := by
  have := foldl_rep its n.toNat []
  rw [List.nil_append] at this
  exact this
 refine wpAny_binaryOp_repeat_ref (T := "tuple") (U := "int") (by decide) ⟨_, ho, rfl⟩ (fun s' => typeIs_int s' n t) noFill_tuple_mul PySem.F.fills_int_mul PySem.F.slot_int_rmul repeat_tuple PySem.F.slot_int_index.lookup
  (call_meets PySem.F.slot_int_rmul (typeIs_int s n t) PySem.F.entry_int_rmul (PySem.F.args_int_rmul_2 _ _) (int_rmul_tuple n t a its.toArray k dd sl)
   ⟨ho, rfl, ⟨_, ho, rfl⟩, call_meets PySem.F.slot_tuple_mul ⟨_, ho, rfl⟩ PySem.F.entry_tuple_mul (PySem.F.args_tuple_mul_2 _ _) (tuple_mulW a its.toArray k dd sl n t h1 h2 (by rw [List.size_toArray]; omega) (by rw [List.size_toArray]; omega)) ⟨ho, ?_⟩⟩)
 rw [hnew]
 have hz : (List.replicate n.toNat xs).flatten.length ≤ sizeLine := by
  rw [len_rep]
  have : n.toNat * xs.length ≤ 1000 * 1000 := Nat.mul_le_mul (by omega) (by omega)
  have hs1 : (1000000 : Nat) ≤ sizeLine := by decide
  omega
 refine ⟨.ref s.heap.objs.size, _, I.laid (t' := s.toks) (o := .tup (List.replicate n.toNat xs).flatten) (fun b ob q => Heap.get?_push_of_some _ q) (Nat.le_refl _) ?_, rfl, q _ (I.hok.fresh (Nat.le_refl _))⟩
 exact ⟨hz, _, r.rep n.toNat, IsTup.new _ _⟩
end L2
set_option maxHeartbeats 4000000
namespace Cw
open PySem L2
end Cw
set_option maxHeartbeats 4000000
namespace L2
open PySem PySem.Spec PyProof.Rows
section
variable {X : Cx}
theorem call_int_txt : CallR X (.type "int") (fun xs H Q => ∃ z n, xs = [.str z] ∧ PySem.intText? z = some n ∧ z.length ≤ 640 ∧ Q (.int n) H) := by
 intro pins s σ H xs us Q I r h
 obtain ⟨z, n, rfl, h1, h2, q⟩ := h
 obtain ⟨u, rfl, t, rfl⟩ := vals1 r
 exact PySem.W.KIN.call_text h1 h2 ⟨.int n, H, I.tok _, ⟨_, rfl⟩, q⟩
end
end L2
namespace Cw
open PySem L2
end Cw
set_option maxHeartbeats 4000000
namespace L2
open PySem PySem.Spec PyProof.Rows
theorem paired_at {α β : Type} {R : α → β → Prop} : ∀ {xs : List α} {ys : List β}, Paired R xs ys → ∀ {i : Nat} {x : α}, xs[i]? = some x → ∃ y, ys[i]? = some y ∧ R x y
 | _, _, .nil, _, _, h => by simp at h
 | _, _, .cons r t, 0, x, h => by simp at h; subst h; exact ⟨_, rfl, r⟩
 | _, _, .cons r t, i + 1, x, h => by
  obtain ⟨y, h1, h2⟩ := paired_at t (i := i) (x := x) (by simpa using h)
  exact ⟨y, by simpa using h1, h2⟩
theorem paired_len {α β : Type} {R : α → β → Prop} : ∀ {xs : List α} {ys : List β}, Paired R xs ys → xs.length = ys.length
 | _, _, .nil => rfl
 | _, _, .cons _ t => by simp [paired_len t]
section
variable {X : Cx}
theorem val_at {vs : List V} {its : List Value} (r : Vals vs its) {j : Nat} (h : j < its.toArray.size) : ∃ v, vs[j]? = some v ∧ RelV v its.toArray[j] := by
 have hl := r.length
 rw [List.size_toArray] at h
 have hj : j < vs.length := by omega
 obtain ⟨u, hu, ru⟩ := r.get (i := j) (x := vs[j]) (List.getElem?_eq_getElem hj)
 rw [List.getElem?_eq_getElem h] at hu
 cases hu
 exact ⟨_, List.getElem?_eq_getElem hj, by simpa using ru⟩
end
end L2
set_option maxHeartbeats 4000000
namespace Ci
open PySem L2
inductive PV where
 | non | bl (b : Bool) | int (i : Int) | str (z : Str)
 | tup (xs : List PV) | lst (xs : List PV)
 | exc (c : Str)
 | dct (ks vs : List PV)
 deriving Inhabited
structure Wd where
 K : PySem.W.Frag
 mg : Str → Option Value
 xs : List Str
def LsR (K : PySem.W.Frag) (H : Hp) (a : Addr) (vs : List V) : Prop :=
 Rd H a (.lst vs) ∨ ∃ (its : Array Value) (n : Nat), K.lookup a = some { cls := .type "list", data := .seq its n } ∧ its.size ≤ sizeLine ∧ Vals vs its.toList
def kP : Key → PV
 | .inl i => .int i
 | .inr z => .str z
def DcAt (G : Hp) (a : Addr) (ks : List PV) (us : List V) : Prop :=
 (∃ kk : List (List Key), ks = kk.map (fun k => .tup (k.map kP)) ∧ kk.length = us.length ∧ G a = some (.dT (kk.zip us))) ∨
 (∃ kk : List Key, ks = kk.map kP ∧ kk.length = us.length ∧ G a = some (.dK (kk.zip us)))
theorem DcAt.same {G G' : Hp} {a : Addr} {ks : List PV} {us : List V} (s : Same G G') (h : DcAt G a ks us) : DcAt G' a ks us := by
 rcases h with ⟨kk, h1, h2, h3⟩ | ⟨kk, h1, h2, h3⟩
 ·exact .inl ⟨kk, h1, h2, s _ _ h3⟩
 ·exact .inr ⟨kk, h1, h2, s _ _ h3⟩
mutual
def Rep (W : Wd) (G : Hp) : PV → V → Prop
 | .non, v => v = .non
 | .bl b, v => v = .bl b
 | .int i, v => v = .int i
 | .str z, v => v = .str z
 | .tup xs, v => ∃ a vs, v = .ref a ∧ SqT W.K G a vs ∧ RepL W G xs vs
 | .lst xs, v => ∃ a vs, v = .ref a ∧ LsR W.K G a vs ∧ RepL W G xs vs
 | .exc c, v => ∃ a C, v = .ref a ∧ c ∈ W.xs ∧ W.mg c = some (.ref C) ∧ G a = some (excO a C)
 | .dct ks vs, v => ∃ a us, v = .ref a ∧ DcAt G a ks us ∧ RepL W G vs us
def RepL (W : Wd) (G : Hp) : List PV → List V → Prop
 | [], vs => vs = []
 | p :: ps, vs => ∃ v r, vs = v :: r ∧ Rep W G p v ∧ RepL W G ps r
end
theorem Same.tup {K : PySem.W.Frag} {H H' : Hp} {a : Addr} {xs : List V} (e : Same H H') (h : SqT K H a xs) : SqT K H' a xs := by
 rcases h with (h | ⟨o, h⟩) | h
 ·exact .inl (.inl (e _ _ h))
 ·exact .inl (.inr ⟨o, e _ _ h⟩)
 ·exact .inr h
theorem Same.rd {H H' : Hp} {a : Addr} {u : HO} (e : Same H H') (h : Rd H a u) : Rd H' a u := by
 rcases h with h | ⟨o, h⟩
 ·exact .inl (e _ _ h)
 ·exact .inr ⟨o, e _ _ h⟩
theorem Same.ls {K : PySem.W.Frag} {H H' : Hp} {a : Addr} {vs : List V} (e : Same H H') (h : LsR K H a vs) : LsR K H' a vs := h.elim (fun z => .inl (Same.rd e z)) .inr
section
variable {W : Wd} {G G' : Hp}
mutual
theorem Rep.same (s : Same G G') : ∀ (p : PV) {v : V}, Rep W G p v → Rep W G' p v
 | .non, _, h => by simpa only [Rep] using h
 | .bl b, _, h => by simpa only [Rep] using h
 | .int i, _, h => by simpa only [Rep] using h
 | .str z, _, h => by simpa only [Rep] using h
 | .tup xs, _, h => by
  simp only [Rep] at h ⊢
  obtain ⟨a, vs, e, q, l⟩ := h
  exact ⟨a, vs, e, Same.tup s q, RepL.same s xs l⟩
 | .lst xs, _, h => by
  simp only [Rep] at h ⊢
  obtain ⟨a, vs, e, q, l⟩ := h
  exact ⟨a, vs, e, Same.ls s q, RepL.same s xs l⟩
 | .exc c, _, h => by
  simp only [Rep] at h ⊢
  obtain ⟨a, C, e, x, m, q⟩ := h
  exact ⟨a, C, e, x, m, s _ _ q⟩
 | .dct ks vs, _, h => by
  simp only [Rep] at h ⊢
  obtain ⟨a, us, e, m, l⟩ := h
  exact ⟨a, us, e, m.same s, RepL.same s vs l⟩
theorem RepL.same (s : Same G G') : ∀ (ps : List PV) {vs : List V}, RepL W G ps vs → RepL W G' ps vs
 | [], _, h => by simpa only [RepL] using h
 | p :: ps, _, h => by
  simp only [RepL] at h ⊢
  obtain ⟨v, r, e, h1, h2⟩ := h
  exact ⟨v, r, e, Rep.same s p h1, RepL.same s ps h2⟩
end
theorem RepL.paired : ∀ {ps : List PV} {vs : List V}, RepL W G ps vs → Paired (fun v p => Rep W G p v) vs ps
 | [], _, h => by simp only [RepL] at h; subst h; exact .nil
 | p :: ps, _, h => by
  simp only [RepL] at h
  obtain ⟨v, r, rfl, h1, h2⟩ := h
  exact .cons h1 (RepL.paired h2)
theorem RepL.length {ps : List PV} {vs : List V} (h : RepL W G ps vs) : vs.length = ps.length := paired_len h.paired
theorem RepL.nil : RepL W G [] [] := by simp only [RepL]
theorem RepL.cons {p : PV} {v : V} {ps : List PV} {vs : List V} (h : Rep W G p v) (t : RepL W G ps vs) : RepL W G (p :: ps) (v :: vs) := by simp only [RepL]; exact ⟨_, _, rfl, h, t⟩
theorem RepL.uncons {p : PV} {ps : List PV} {vs : List V} (h : RepL W G (p :: ps) vs) : ∃ v r, vs = v :: r ∧ Rep W G p v ∧ RepL W G ps r := by simpa only [RepL] using h
theorem RepL.append : ∀ {ps qs : List PV} {vs us : List V}, RepL W G ps vs → RepL W G qs us → RepL W G (ps ++ qs) (vs ++ us)
 | [], _, _, _, h, k => by simp only [RepL] at h; subst h; exact k
 | p :: ps, _, _, _, h, k => by
  obtain ⟨v, r, rfl, h1, h2⟩ := h.uncons
  exact .cons h1 (h2.append k)
theorem RepL.get : ∀ {ps : List PV} {vs : List V} {i : Nat} {v : V}, RepL W G ps vs → vs[i]? = some v → ∃ p, ps[i]? = some p ∧ Rep W G p v := fun h e => paired_at h.paired e
theorem RepL.getP : ∀ {ps : List PV} {vs : List V} {i : Nat} {p : PV}, RepL W G ps vs → ps[i]? = some p → ∃ v, vs[i]? = some v ∧ Rep W G p v
 | [], _, _, _, _, e => by simp at e
 | p :: ps, _, 0, q, h, e => by
  obtain ⟨v, r, rfl, h1, h2⟩ := h.uncons
  simp at e; subst e; exact ⟨v, rfl, h1⟩
 | p :: ps, _, i + 1, q, h, e => by
  obtain ⟨v, r, rfl, h1, h2⟩ := h.uncons
  obtain ⟨u, e1, k⟩ := h2.getP (i := i) (by simpa using e)
  exact ⟨u, by simpa using e1, k⟩
theorem RepL.drop : ∀ {ps : List PV} {vs : List V} (n : Nat), RepL W G ps vs → RepL W G (ps.drop n) (vs.drop n)
 | _, _, 0, h => by simpa using h
 | [], _, n + 1, h => by simp only [RepL] at h; subst h; simp only [List.drop_nil]; exact .nil
 | p :: ps, _, n + 1, h => by
  obtain ⟨v, r, rfl, h1, h2⟩ := h.uncons
  simpa using h2.drop n
theorem RepL.take : ∀ {ps : List PV} {vs : List V} (n : Nat), RepL W G ps vs → RepL W G (ps.take n) (vs.take n)
 | _, _, 0, h => by simp only [List.take_zero]; exact .nil
 | [], _, n + 1, h => by simp only [RepL] at h; subst h; simp only [List.take_nil]; exact .nil
 | p :: ps, _, n + 1, h => by
  obtain ⟨v, r, rfl, h1, h2⟩ := h.uncons
  simp only [List.take_succ_cons]
  exact .cons h1 (h2.take n)
theorem RepL.set : ∀ {ps : List PV} {vs : List V} {p : PV} {v : V} (n : Nat), RepL W G ps vs → Rep W G p v → RepL W G (ps.set n p) (vs.set n v)
 | [], _, _, _, _, h, _ => by simp only [RepL] at h; subst h; simp only [List.set_nil]; exact .nil
 | q :: ps, _, p, v, 0, h, k => by
  obtain ⟨u, r, rfl, h1, h2⟩ := h.uncons
  simp only [List.set_cons_zero]
  exact .cons k h2
 | q :: ps, _, p, v, n + 1, h, k => by
  obtain ⟨u, r, rfl, h1, h2⟩ := h.uncons
  simp only [List.set_cons_succ]
  exact .cons h1 (h2.set n k)
end
structure Grow (G H G' H' : Hp) : Prop where
 g : Same G G'
 h : Same H H'
 sub : Same G' H'
 own : ∀ a, H a ≠ none → G a = none → G' a = none
theorem Grow.refl {G H : Hp} (s : Same G H) : Grow G H G H := ⟨Same.refl _, Same.refl _, s, fun _ _ h => h⟩
theorem Grow.trans {G H G1 H1 G2 H2 : Hp} (a : Grow G H G1 H1) (b : Grow G1 H1 G2 H2) : Grow G H G2 H2 :=
 ⟨a.g.trans b.g, a.h.trans b.h, b.sub, fun x hx hg => b.own x (fun z => hx (a.h.free z)) (a.own x hx hg)⟩
theorem Grow.new {G H : Hp} {p : Addr} {o : HO} (s : Same G H) (h : H p = none) : Grow G H (upd G p o) (upd H p o) where
 g := same_upd (s.free h)
 h := same_upd h
 sub := fun b u e => by
  by_cases hb : b = p
  ·subst hb; rw [upd_same] at e ⊢; exact e
  ·rw [upd_ne hb] at e ⊢; exact s _ _ e
 own := fun a ha hg => by
  have : a ≠ p := fun z => by subst z; exact ha h
  rw [upd_ne this]; exact hg
theorem Grow.mine {G H : Hp} {p : Addr} {o : HO} (s : Same G H) (h : H p = none) : Grow G H G (upd H p o) :=
 ⟨Same.refl _, same_upd h, s.trans (same_upd h), fun _ _ hg => hg⟩
inductive Slot where
 | no | val (p : PV) | own (p : PV)
 deriving Inhabited
abbrev Sl := List Slot
def Own (W : Wd) (H0 G H : Hp) : PV → V → Prop
 | .lst xs, v => ∃ a vs, v = .ref a ∧ H a = some (.lst vs) ∧ G a = none ∧ H0 a = none ∧ RepL W G xs vs
 | .dct ks ps, v => ∃ a us, v = .ref a ∧ DcAt H a ks us ∧ G a = none ∧ H0 a = none ∧ RepL W G ps us
 | _, _ => False
def Top (W : Wd) (H0 G H : Hp) (p : PV) (v : V) : Prop := Rep W G p v ∨ Own W H0 G H p v
def SlR (W : Wd) (H0 G H : Hp) : Slot → Option V → Prop
 | .no, _ => True
 | .val p, o => ∃ v, o = some v ∧ Rep W G p v
 | .own p, o => ∃ v, o = some v ∧ Own W H0 G H p v
structure SR (W : Wd) (H0 : Hp) (env : Sl) (σ : St) (G H : Hp) : Prop where
 len : env.length = σ.length
 sub : Same G H
 base : Same H0 H
 slot : ∀ (i : Nat) (s : Slot), env[i]? = some s → ∃ o, σ[i]? = some o ∧ SlR W H0 G H s o
 apart : ∀ (i j : Nat) (p q : PV) (a : Addr), env[i]? = some (.own p) → env[j]? = some (.own q) → σ[i]? = some (some (.ref a)) → σ[j]? = some (some (.ref a)) → i = j
section
variable {W : Wd} {H0 G H G' H' : Hp} {env : Sl} {σ : St}
theorem Own.grow (g : Grow G H G' H') : ∀ {p : PV} {v : V}, Own W H0 G H p v → Own W H0 G' H' p v
 | .lst xs, _, h => by
  obtain ⟨a, vs, e, h1, h2, h3, l⟩ := h
  exact ⟨a, vs, e, g.h _ _ h1, g.own a (by rw [h1]; exact fun z => by cases z) h2, h3, RepL.same g.g xs l⟩
 | .dct ks ps, _, h => by
  obtain ⟨a, vs, e, h1, h2, h3, l⟩ := h
  refine ⟨a, vs, e, h1.same g.h, g.own a ?_ h2, h3, RepL.same g.g ps l⟩
  rcases h1 with ⟨_, _, _, h⟩ | ⟨_, _, _, h⟩ <;> (rw [h]; exact fun z => by cases z)
 | .non, _, h => h | .bl _, _, h => h | .int _, _, h => h | .str _, _, h => h | .tup _, _, h => h | .exc _, _, h => h
theorem SlR.grow (g : Grow G H G' H') : ∀ {s : Slot} {o : Option V}, SlR W H0 G H s o → SlR W H0 G' H' s o
 | .no, _, _ => trivial
 | .val p, _, h => by obtain ⟨v, e, r⟩ := h; exact ⟨v, e, Rep.same g.g p r⟩
 | .own p, _, h => by obtain ⟨v, e, r⟩ := h; exact ⟨v, e, r.grow g⟩
theorem SR.grow (r : SR W H0 env σ G H) (g : Grow G H G' H') : SR W H0 env σ G' H' :=
 ⟨r.len, g.sub, r.base.trans g.h, fun i s e => by obtain ⟨o, h1, h2⟩ := r.slot i s e; exact ⟨o, h1, h2.grow g⟩, r.apart⟩
theorem Top.grow {p : PV} {v : V} (g : Grow G H G' H') (h : Top W H0 G H p v) : Top W H0 G' H' p v := h.elim (fun z => .inl (Rep.same g.g p z)) fun z => .inr (z.grow g)
theorem Top.lst {xs : List PV} {v : V} (s : Same G H) (h : Top W H0 G H (.lst xs) v) : ∃ a vs, v = .ref a ∧ LsR W.K H a vs ∧ RepL W G xs vs := by
 rcases h with h | h
 ·simp only [Rep] at h
  obtain ⟨a, vs, e, q, l⟩ := h
  exact ⟨a, vs, e, Same.ls s q, l⟩
 ·obtain ⟨a, vs, e, h1, _, _, l⟩ := h
  exact ⟨a, vs, e, .inl (.inl h1), l⟩
theorem Top.tup {xs : List PV} {v : V} (s : Same G H) (h : Top W H0 G H (.tup xs) v) : ∃ a vs, v = .ref a ∧ SqT W.K H a vs ∧ RepL W G xs vs := by
 rcases h with h | h
 ·simp only [Rep] at h
  obtain ⟨a, vs, e, q, l⟩ := h
  exact ⟨a, vs, e, Same.tup s q, l⟩
 ·exact h.elim
theorem Top.dct {ks ps : List PV} {v : V} (s : Same G H) (h : Top W H0 G H (.dct ks ps) v) : ∃ a us, v = .ref a ∧ DcAt H a ks us ∧ RepL W G ps us := by
 rcases h with h | h
 ·simp only [Rep] at h
  obtain ⟨a, vs, e, q, l⟩ := h
  exact ⟨a, vs, e, q.same s, l⟩
 ·obtain ⟨a, vs, e, q, _, _, l⟩ := h
  exact ⟨a, vs, e, q, l⟩
theorem Top.int {i : Int} {v : V} (h : Top W H0 G H (.int i) v) : v = .int i := h.elim (fun z => by simpa only [Rep] using z) fun z => z.elim
theorem Top.bl {b : Bool} {v : V} (h : Top W H0 G H (.bl b) v) : v = .bl b := h.elim (fun z => by simpa only [Rep] using z) fun z => z.elim
theorem Top.str {b : Str} {v : V} (h : Top W H0 G H (.str b) v) : v = .str b := h.elim (fun z => by simpa only [Rep] using z) fun z => z.elim
theorem Top.non {v : V} (h : Top W H0 G H .non v) : v = .non := h.elim (fun z => by simpa only [Rep] using z) fun z => z.elim
theorem Rep.i {i : Int} : Rep W G (.int i) (.int i) := by simp only [Rep]
theorem Rep.b {i : Bool} : Rep W G (.bl i) (.bl i) := by simp only [Rep]
theorem Rep.s {i : Str} : Rep W G (.str i) (.str i) := by simp only [Rep]
theorem Rep.n : Rep W G .non .non := by simp only [Rep]
theorem Rep.l {a : Addr} {xs : List PV} {vs : List V} (h : LsR W.K G a vs) (l : RepL W G xs vs) : Rep W G (.lst xs) (.ref a) := by simp only [Rep]; exact ⟨a, vs, rfl, h, l⟩
theorem Rep.t {a : Addr} {xs : List PV} {vs : List V} (h : SqT W.K G a vs) (l : RepL W G xs vs) : Rep W G (.tup xs) (.ref a) := by simp only [Rep]; exact ⟨a, vs, rfl, h, l⟩
end
end Ci
set_option maxHeartbeats 4000000
namespace L2
open PySem PySem.Spec PyProof.Rows
def cntQ (z y : Str) : Int := ((Builtin.Str.occurrences z y 0 z.length (z.length + 1)).length : Int)
section
variable {X : Cx}
theorem mt_countS : MtR X "str.count" (fun x vs H Q => ∃ z y, x = .str z ∧ vs = [.str y] ∧ Q (.int (cntQ z y)) H) := by
 intro pins s σ H x vs v us Q I rx rv h
 obtain ⟨z, y, rfl, rfl, q⟩ := h
 obtain ⟨t, rfl⟩ := rx
 obtain ⟨u, rfl, t2, rfl⟩ := rv.one
 exact call_meets F.slot_str_count (typeIs_str s z t) F.entry_str_count (F.args_str_count_2 _ _) (gives_str_count z y t t2).meets ⟨.int _, H, I.tok _, ⟨_, rfl⟩, q⟩
end
end L2
set_option maxHeartbeats 4000000
namespace Ci
open PySem L2
inductive Res (α : Type) where
 | ok (a : α) | exc (c : Str) | bad
@[inline] def Res.bind {α β : Type} : Res α → (α → Res β) → Res β
 | .ok a, f => f a
 | .exc c, _ => .exc c
 | .bad, _ => .bad
instance : Monad Res where
 pure := .ok
 bind := Res.bind
theorem Res.bind_ok {α β : Type} {r : Res α} {f : α → Res β} {b : β} (h : r.bind f = .ok b) : ∃ a, r = .ok a ∧ f a = .ok b := by
 cases r with
 | ok a => exact ⟨a, rfl, h⟩
 | exc c => cases h
 | bad => cases h
theorem Res.bind_exc {α β : Type} {r : Res α} {f : α → Res β} {c : Str} (h : r.bind f = .exc c) : r = .exc c ∨ ∃ a, r = .ok a ∧ f a = .exc c := by
 cases r with
 | ok a => exact .inr ⟨a, rfl, h⟩
 | exc c' => cases h; exact .inl rfl
 | bad => cases h
def Res.of {α : Type} : Option α → Res α
 | some a => .ok a
 | none => .bad
def Res.well {α : Type} : Res α → Res α
 | .ok a => .ok a
 | _ => .bad
abbrev LIM : Nat := 1000000
def eqs (f : PV → PV → Bool) : List PV → List PV → Bool
 | [], [] => true
 | x :: xs, y :: ys => f x y && eqs f xs ys
 | _, _ => false
def eqN : Nat → PV → PV → Bool
 | _, .non, .non => true
 | _, .bl a, .bl b => a == b
 | _, .bl a, .int i => (if a then 1 else 0) == i
 | _, .int i, .bl a => i == (if a then 1 else 0)
 | _, .int i, .int j => i == j
 | _, .str x, .str y => x == y
 | n + 1, .tup xs, .tup ys => eqs (eqN n) xs ys
 | n + 1, .lst xs, .lst ys => eqs (eqN n) xs ys
 | _, _, _ => false
def plain : Nat → PV → Bool
 | _, .non => true
 | _, .bl _ => true
 | _, .int _ => true
 | _, .str _ => true
 | n + 1, .tup xs => xs.all (plain n)
 | n + 1, .lst xs => xs.all (plain n)
 | _, _ => false
abbrev DP : Nat := 9
abbrev eqv : PV → PV → Bool := eqN DP
abbrev pln : PV → Bool := plain DP
inductive Bop where | add | sub | mul | mod | fdiv
inductive Cop where | eq | ne | lt | le | gt | ge | is | isn | in_ | nin
def small64 (i : Int) : Bool := decide (-(2 ^ 64) < i) && decide (i < 2 ^ 64)
def binOp : Bop → PV → PV → Res PV
 | .add, .int i, .int j => .ok (.int (i + j))
 | .add, .str x, .str y => if x.length + y.length ≤ LIM then .ok (.str (x ++ y)) else .bad
 | .add, .lst x, .lst y => if x.length + y.length ≤ LIM then .ok (.lst (x ++ y)) else .bad
 | .add, .tup x, .tup y => if x.length + y.length ≤ LIM then .ok (.tup (x ++ y)) else .bad
 | .sub, .int i, .int j => .ok (.int (i - j))
 | .mul, .int i, .int j => if small64 i || small64 j then .ok (.int (i * j)) else .bad
 | .mul, .lst x, .int j => if 0 ≤ j ∧ j < 1000 ∧ x.length < 1000 then .ok (.lst (List.replicate j.toNat x).flatten) else .bad
 | .mul, .tup x, .int j => if 1 < j ∧ j < 1000 ∧ 0 < x.length ∧ x.length < 1000 then .ok (.tup (List.replicate j.toNat x).flatten) else .bad
 | .mul, .str x, .int j => if 1 < j ∧ j < 1000 ∧ 0 < x.length ∧ x.length < 1000 then .ok (.str (repS x j.toNat)) else .bad
 | .mod, .int i, .int j => if 0 < j then .ok (.int (i % j)) else .bad
 | .fdiv, .int i, .int j => if 0 < j ∧ j < 1073741824 then .ok (.int (i / j)) else .bad
 | _, _, _ => .bad
def intsOf : List PV → Option (List Int)
 | [] => some []
 | .int i :: r => (intsOf r).map (i :: ·)
 | _ => none
def memV (x : PV) (ys : List PV) : Bool := ys.any fun y => eqv y x
def opEq (a b : PV) : Res PV := if pln a && pln b then .ok (.bl (eqv a b)) else .bad
def opNe (a b : PV) : Res PV := if pln a && pln b then .ok (.bl (!eqv a b)) else .bad
def opLt : PV → PV → Res PV
 | .int i, .int j => .ok (.bl (decide (i < j)))
 | .tup xs, .tup ys => (Res.of (intsOf xs)).bind fun ns => (Res.of (intsOf ys)).bind fun ms => .ok (.bl (HT.lexLt ns ms))
 | _, _ => .bad
def opLe : PV → PV → Res PV
 | .int i, .int j => .ok (.bl (decide (i ≤ j)))
 | _, _ => .bad
def opGt : PV → PV → Res PV
 | .int i, .int j => .ok (.bl (decide (j < i)))
 | _, _ => .bad
def opGe : PV → PV → Res PV
 | .int i, .int j => .ok (.bl (decide (j ≤ i)))
 | _, _ => .bad
def isNon : PV → Bool
 | .non => true
 | _ => false
def opIs : PV → PV → Res PV
 | a, .non => .ok (.bl (isNon a))
 | .bl a, .bl b => .ok (.bl (a == b))
 | _, _ => .bad
def opIsn : PV → PV → Res PV
 | a, .non => .ok (.bl (!isNon a))
 | .bl a, .bl b => .ok (.bl (a != b))
 | _, _ => .bad
def opIn : PV → PV → Res PV
 | a, .lst ys => if pln a && ys.all pln then .ok (.bl (memV a ys)) else .bad
 | a, .tup ys => if pln a && ys.all pln then .ok (.bl (memV a ys)) else .bad
 | .str i, .str j => .ok (.bl (!(Builtin.Str.occurrences j i 0 j.length 1).isEmpty))
 | _, _ => .bad
def opNin : PV → PV → Res PV
 | a, .lst ys => if pln a && ys.all pln then .ok (.bl (!memV a ys)) else .bad
 | a, .tup ys => if pln a && ys.all pln then .ok (.bl (!memV a ys)) else .bad
 | .str i, .str j => .ok (.bl (!(!(Builtin.Str.occurrences j i 0 j.length 1).isEmpty)))
 | _, _ => .bad
def cmpOp : Cop → PV → PV → Res PV
 | .eq => opEq | .ne => opNe | .lt => opLt | .le => opLe | .gt => opGt | .ge => opGe | .is => opIs | .isn => opIsn | .in_ => opIn | .nin => opNin
def subOp : PV → PV → Res PV
 | .lst xs, .int i => Res.of (atI xs i)
 | .tup xs, .int i => Res.of (atI xs i)
 | .str z, .int i => if z.length ≤ LIM then (Res.of (atI z.cps.toList i)).bind fun c => .ok (.str ⟨#[c]⟩) else .bad
 | _, _ => .bad
def cutP {α : Type} (xs : List α) (lo hi : Option Int) : List α := (xs.drop (HT.sIx xs.length 0 lo)).take (HT.sIx xs.length xs.length hi - HT.sIx xs.length 0 lo)
def sliceOp : PV → Option Int → Option Int → Res PV
 | .lst xs, lo, hi => .ok (.lst (cutP xs lo hi))
 | .tup xs, lo, hi => if HT.sIx xs.length 0 lo = 0 ∧ HT.sIx xs.length xs.length hi = xs.length then .bad else .ok (.tup (cutP xs lo hi))
 | .str z, lo, hi => if z.length ≤ LIM then .ok (.str (Txt.slice z lo hi)) else .bad
 | _, _, _ => .bad
inductive B where | len | abs | max2 | min2 | int | str | list | tuple | all | sum
def boolsOf : List PV → Option (List Bool)
 | [] => some []
 | .bl b :: r => (boolsOf r).map (b :: ·)
 | _ => none
def chars (z : Str) : List PV := z.cps.toList.map fun c => .str ⟨#[c]⟩
def bLen : List PV → Res PV
 | [.lst xs] => .ok (.int xs.length)
 | [.tup xs] => .ok (.int xs.length)
 | [.str z] => if z.length ≤ LIM then .ok (.int z.length) else .bad
 | _ => .bad
def bAbs : List PV → Res PV
 | [.int i] => .ok (.int (if i < 0 then -i else i))
 | _ => .bad
def bMax : List PV → Res PV
 | [.int i, .int j] => .ok (.int (if j > i then j else i))
 | _ => .bad
def bMin : List PV → Res PV
 | [.int i, .int j] => .ok (.int (if j < i then j else i))
 | _ => .bad
def bInt : List PV → Res PV
 | [.str z] => if z.length ≤ 640 then (Res.of (PySem.intText? z)).bind fun n => .ok (.int n) else .bad
 | [.int i] => .ok (.int i)
 | [.bl b] => .ok (.int (if b then 1 else 0))
 | _ => .bad
def bStr : List PV → Res PV
 | [.int i] => if i.natAbs.log2 < 1920 then .ok (.str (toString i)) else .bad
 | _ => .bad
def bList : List PV → Res PV
 | [.lst xs] => .ok (.lst xs)
 | [.tup xs] => .ok (.lst xs)
 | [.str z] => if z.length ≤ LIM then .ok (.lst (chars z)) else .bad
 | _ => .bad
def bTuple : List PV → Res PV
 | [.lst xs] => .ok (.tup xs)
 | [.tup xs] => .ok (.tup xs)
 | _ => .bad
def bAll : List PV → Res PV
 | [.lst xs] => (Res.of (boolsOf xs)).bind fun bs => .ok (.bl (bs.all id))
 | _ => .bad
def bSum : List PV → Res PV
 | [.lst xs] => (Res.of (intsOf xs)).bind fun ns => if (ns.all fun n => decide (-(2 ^ 32) < n) && decide (n < 2 ^ 32)) && decide (ns.length < LIM) then .ok (.int ns.sum) else .bad
 | _ => .bad
def bltOp : B → List PV → Res PV
 | .len => bLen | .abs => bAbs | .max2 => bMax | .min2 => bMin | .int => bInt | .str => bStr | .list => bList | .tuple => bTuple | .all => bAll | .sum => bSum
inductive Ty where | int | bool | str | tuple | list
def isTy : Ty → PV → Bool
 | .int, .int _ => true
 | .int, .bl _ => true
 | .bool, .bl _ => true
 | .str, .str _ => true
 | .tuple, .tup _ => true
 | .list, .lst _ => true
 | _, _ => false
def tyOp (t : Ty) : PV → Res PV
 | .exc _ => .bad
 | .dct _ _ => .bad
 | p => .ok (.bl (isTy t p))
def strsOf : List PV → Option (List Str)
 | [] => some []
 | .str z :: r => (strsOf r).map (z :: ·)
 | _ => none
inductive M where | countS | countL | index | join
def mJoin : List PV → Res PV
 | [.str z, .lst xs] => (Res.of (strsOf xs)).bind fun ys => if z.length ≤ 16 ∧ (ys.map (·.length)).sum + ys.length ≤ LIM then .ok (.str (Txt.join z ys)) else .bad
 | _ => .bad
def mCountS : List PV → Res PV
 | [.str z, .str y] => .ok (.int (cntQ z y))
 | _ => .bad
def mCountL : List PV → Res PV
 | [.lst xs, v] => if pln v && xs.all pln then .ok (.int ((xs.countP fun y => eqv y v : Nat) : Int)) else .bad
 | _ => .bad
def mIndex : List PV → Res PV
 | [.lst xs, v] => if pln v && xs.all pln && decide (xs.length < 1000) then (match xs.findIdx? fun y => eqv y v with | some j => .ok (.int (j : Nat)) | none => .bad) else .bad
 | _ => .bad
def mthOp : M → List PV → Res PV
 | .join => mJoin | .countS => mCountS | .countL => mCountL | .index => mIndex
def mKind : M → PV → Bool
 | .join, .str _ => true
 | .countS, .str _ => true
 | .countL, .lst _ => true
 | .index, .lst _ => true
 | _, _ => false
inductive Tg where
 | one (i : Nat) | two (i j : Nat) | three (i j k : Nat)
mutual
inductive E where
 | var (i : Nat) | tmp (i : Nat)
 | cst (p : PV)
 | glob (g : Str) (p : PV)
 | call (f : Str) (as : Es)
 | blt (b : B) (as : Es)
 | ty (t : Ty) (a : E)
 | isx (c : Str) (a : E)
 | mth (m : M) (o : E) (as : Es)
 | bin (o : Bop) (a b : E)
 | cmp (o : Cop) (a b : E)
 | ch (o1 o2 : Cop) (a b c : E)
 | not (a : E)
 | neg (a : E)
 | and (a b : E) | or (a b : E)
 | ite (c a b : E)
 | tup (as : Es) | lst (as : Es)
 | sub (a b : E)
 | slice (a : E) (lo hi : Oe)
 | comp (k : Nat) (cap : List Nat) (tg : Tg) (it : I) (elt : E)
 | compIf (k : Nat) (cap : List Nat) (tg : Tg) (it : I) (c elt : E)
inductive Es where
 | nil | cons (e : E) (es : Es)
inductive Oe where
 | no | some (e : E)
inductive I where
 | seq (e : E) | rng (e : E) | rng2 (a b : E) | enum (e : E) | zip (a b : E)
end
mutual
inductive S where
 | expr (e : E)
 | set (i : Nat) (e : E)
 | unp (tg : Tg) (e : E)
 | own (i : Nat) (e : E)
 | frz (i : Nat)
 | app (i : Nat) (e : E)
 | extd (i : Nat) (e : E)
 | put (i : Nat) (k e : E)
 | pop (j i : Nat)
 | aug (i : Nat) (o : Bop) (e : E)
 | ret (e : E) | retN
 | ite (c : E) (a b : Ss)
 | for_ (tg : Tg) (it : I) (b : Ss)
 | whl (c : E) (b : Ss)
 | raise (c : Str) (m : Str)
 | tryx (b : Ss) (c : Str) (i j : Nat)
 | brk | cont | pass
inductive Ss where
 | nil | cons (s : S) (ss : Ss)
end
abbrev Fns := Str → List PV → Res PV
def slotV : Option Slot → Res PV
 | some (.val p) => .ok p
 | _ => .bad
def slotT : Option Slot → Res PV
 | some (.val p) => .ok p
 | some (.own p) => .ok p
 | _ => .bad
def Tg.put : Tg → PV → Sl → Res Sl
 | .one i, p, env => .ok (env.set i (.val p))
 | .two i j, .tup [a, b], env => .ok ((env.set i (.val a)).set j (.val b))
 | .three i j k, .tup [a, b, c], env => .ok (((env.set i (.val a)).set j (.val b)).set k (.val c))
 | _, _, _ => .bad
def capt (env : Sl) (cap : List Nat) : Sl := cap.map fun i => env.getD i .no
def itemsOf : PV → Res (List PV)
 | .lst xs => .ok xs
 | .tup xs => .ok xs
 | .str z => .ok (chars z)
 | _ => .bad
def rngP (lo : Int) (n : Nat) : List PV := (List.range n).map fun i => .int (lo + (i : Nat))
def small62 (i : Int) : Bool := decide (-(2 ^ 62) ≤ i) && decide (i < 2 ^ 62)
def zipP : List PV → List PV → List PV
 | x :: xs, y :: ys => .tup [x, y] :: zipP xs ys
 | _, _ => []
def enumP (n : Nat) : List PV → List PV
 | [] => []
 | x :: xs => .tup [.int (n : Nat), x] :: enumP (n + 1) xs
def oc : Option PV → List PV → List PV
 | some y, ys => y :: ys
 | none, ys => ys
def compL (f : PV → Res (Option PV)) : List PV → Res (List PV)
 | [] => .ok []
 | x :: xs => (f x).well.bind fun o => (compL f xs).bind fun ys => .ok (oc o ys)
def asB {α : Type} (p : PV) (f : Bool → Res α) : Res α := match p with
 | .bl b => f b
 | _ => .bad
section
variable (F : Fns)
mutual
def evE : E → Sl → Res PV
 | .var i, env => slotV env[i]?
 | .tmp i, env => slotT env[i]?
 | .cst p, _ => .ok p
 | .glob _ p, _ => .ok p
 | .call f as, env => (evEs as env).bind fun ps => F f ps
 | .blt b as, env => (evEs as env).bind fun ps => bltOp b ps
 | .ty t a, env => (evE a env).bind fun p => tyOp t p
 | .isx c a, env => (evE a env).bind fun p => match p with
  | .exc d => .ok (.bl (if c == "ValueError" then true else (c == d || c == "FloorError")))
  | _ => .bad
 | .mth m o as, env => (evE o env).bind fun p => if mKind m p then (evEs as env).bind fun ps => mthOp m (p :: ps) else .bad
 | .bin o a b, env => (evE a env).bind fun x => (evE b env).bind fun y => binOp o x y
 | .cmp o a b, env => (evE a env).bind fun x => (evE b env).bind fun y => cmpOp o x y
 | .ch o1 o2 a b c, env => (evE a env).bind fun x => (evE b env).bind fun y => (cmpOp o1 x y).bind fun t => asB t fun t =>
  if t then (evE c env).bind fun z => cmpOp o2 y z else .ok (.bl false)
 | .not a, env => (evE a env).bind fun x => asB x fun b => .ok (.bl (!b))
 | .neg a, env => (evE a env).bind fun x => match x with | .int i => .ok (.int (-i)) | _ => .bad
 | .and a b, env => (evE a env).bind fun x => asB x fun t => if t then evE b env else .ok (.bl false)
 | .or a b, env => (evE a env).bind fun x => asB x fun t => if t then .ok (.bl true) else evE b env
 | .ite c a b, env => (evE c env).bind fun x => asB x fun t => if t then evE a env else evE b env
 | .tup as, env => (evEs as env).bind fun ps => .ok (.tup ps)
 | .lst as, env => (evEs as env).bind fun ps => .ok (.lst ps)
 | .sub a b, env => (evE a env).bind fun x => (evE b env).bind fun y => subOp x y
 | .slice a lo hi, env => (evE a env).bind fun x => (evO lo env).bind fun l => (evO hi env).bind fun h => sliceOp x l h
 | .comp k cap tg it elt, env => (evI it env).bind fun xs => if xs.length < LIM then (compL (fun x => (tg.put x (List.replicate k .no ++ capt env cap)).bind fun env' => (evE elt env').bind fun y => .ok (some y)) xs).bind fun ys => .ok (.lst ys) else .bad
 | .compIf k cap tg it c elt, env => (evI it env).bind fun xs => if xs.length < LIM then (compL (fun x => (tg.put x (List.replicate k .no ++ capt env cap)).bind fun env' => (evE c env').bind fun t => asB t fun t => if t then (evE elt env').bind fun y => .ok (some y) else .ok none) xs).bind fun ys => .ok (.lst ys) else .bad
def evEs : Es → Sl → Res (List PV)
 | .nil, _ => .ok []
 | .cons e es, env => (evE e env).bind fun p => (evEs es env).bind fun ps => .ok (p :: ps)
def evO : Oe → Sl → Res (Option Int)
 | .no, _ => .ok none
 | .some e, env => (evE e env).bind fun p => match p with | .int i => .ok (some i) | _ => .bad
def evI : I → Sl → Res (List PV)
 | .seq e, env => (evE e env).bind itemsOf
 | .rng e, env => (evE e env).bind fun p => match p with | .int j => if small62 j then .ok (rngP 0 j.toNat) else .bad | _ => .bad
 | .rng2 a b, env => (evE a env).bind fun p => (evE b env).bind fun q => match p, q with | .int i, .int j => if small62 i && small62 j then .ok (rngP i (j - i).toNat) else .bad | _, _ => .bad
 | .enum e, env => (evE e env).bind fun p => (itemsOf p).bind fun xs => .ok (enumP 0 xs)
 | .zip a b, env => (evE a env).bind fun p => (evE b env).bind fun q => match p, q with | .lst xs, .lst ys => .ok (zipP xs ys) | _, _ => .bad
end
end
inductive Fl where
 | nx (env : Sl) | bk (env : Sl) | ct (env : Sl) | rt (p : PV)
def Fl.seq (f : Fl) (k : Sl → Res Fl) : Res Fl := match f with
 | .nx env => k env
 | f => .ok f
def forL (body : PV → Sl → Res Fl) : List PV → Sl → Res Fl
 | [], env => .ok (.nx env)
 | x :: xs, env => (body x env).bind fun f => match f with
  | .nx env' => forL body xs env'
  | .ct env' => forL body xs env'
  | .bk env' => .ok (.nx env')
  | .rt p => .ok (.rt p)
def whileN (c : Sl → Res PV) (body : Sl → Res Fl) : Nat → Sl → Res Fl
 | 0, _ => .bad
 | n + 1, env => (c env).bind fun t => asB t fun t => if t then (body env).bind fun f => (match f with
  | .nx env' => whileN c body n env'
  | .ct env' => whileN c body n env'
  | .bk env' => .ok (.nx env')
  | .rt p => .ok (.rt p)) else .ok (.nx env)
abbrev WN : Nat := 1000000
def Slot.isOwn : Slot → Bool
 | .own _ => true
 | _ => false
def frzS : Slot → Slot
 | .own p => .val p
 | s => s
section
variable (F : Fns)
mutual
def exS : S → Sl → Res Fl
 | .expr e, env => (evE F e env).bind fun _ => .ok (.nx env)
 | .set i e, env => (evE F e env).bind fun p => .ok (.nx (env.set i (.val p)))
 | .unp tg e, env => (evE F e env).bind fun p => (tg.put p env).bind fun env' => .ok (.nx env')
 | .own i e, env => (evE F e env).bind fun p => .ok (.nx (env.set i (.own p)))
 | .frz i, env => .ok (.nx (env.modify i frzS))
 | .app i e, env => match env[i]? with
  | some (.own (.lst xs)) => (evE F e env).bind fun p => if xs.length < LIM then .ok (.nx (env.set i (.own (.lst (xs ++ [p]))))) else .bad
  | _ => .bad
 | .extd i e, env => match env[i]? with
  | some (.own (.lst xs)) => (evE F e env).bind fun p => match p with
   | .lst ys => if xs.length + ys.length ≤ LIM then .ok (.nx (env.set i (.own (.lst (xs ++ ys))))) else .bad
   | _ => .bad
  | _ => .bad
 | .put i k e, env => (evE F e env).bind fun p => match env[i]? with
  | some (.own (.lst xs)) => (evE F k env).bind fun kp => match kp with
   | .int n => (Res.of (ixN xs.length n)).bind fun j => .ok (.nx (env.set i (.own (.lst (xs.set j p)))))
   | _ => .bad
  | _ => .bad
 | .pop j i, env => match env[i]? with
  | some (.own (.lst xs)) => (Res.of xs[xs.length - 1]?).bind fun p => .ok (.nx ((env.set i (.own (.lst xs.dropLast))).set j (.val p)))
  | _ => .bad
 | .aug i o e, env => (slotV env[i]?).bind fun x => (evE F e env).bind fun y => (match x, y with | .int _, .int _ => binOp o x y | _, _ => .bad).bind fun p => .ok (.nx (env.set i (.val p)))
 | .ret e, env => (evE F e env).bind fun p => .ok (.rt p)
 | .retN, _ => .ok (.rt .non)
 | .ite c a b, env => (evE F c env).bind fun p => asB p fun t => if t then exSs a env else exSs b env
 | .for_ tg it b, env => (evI F it env).bind fun xs => forL (fun x env => (tg.put x env).bind fun env' => exSs b env') xs env
 | .whl c b, env => whileN (evE F c) (exSs b) WN env
 | .raise c _, _ => .exc c
 | .tryx b c i j, env => if env.any Slot.isOwn then .bad else match exSs b env with
  | .exc d => .ok (.nx ((env.set j (.val (.exc d))).set i .no))
  | r => r
 | .brk, env => .ok (.bk env)
 | .cont, env => .ok (.ct env)
 | .pass, env => .ok (.nx env)
def exSs : Ss → Sl → Res Fl
 | .nil, env => .ok (.nx env)
 | .cons s ss, env => (exS s env).bind fun f => f.seq (exSs ss)
end
end
structure Def where
 N : List Str
 np : Nat
 body : Ss
def runD (F : Fns) (d : Def) (as : List PV) : Res PV :=
 if as.length = d.np then (exSs F d.body (as.map .val ++ List.replicate (d.N.length - as.length) .no)).bind fun f => match f with
  | .nx _ => .ok .non
  | .rt p => .ok p
  | _ => .bad
 else .bad
def den : List (Str × Def) → Fns
 | [], _, _ => .bad
 | (n, d) :: r, f, as => if f == n then runD (den r) d as else den r f as
end Ci
set_option maxHeartbeats 4000000
namespace L2
open PySem PySem.Spec PyProof.Rows
section
variable {X : Cx}
end
end L2
set_option maxHeartbeats 4000000
namespace L2
open PySem PySem.Spec PyProof.Rows
section
variable {X : Cx}
theorem call_sumI (hc : X.calm = true) : CallR X (.builtin "sum") (fun xs H Q => ∃ (p : Addr) (ns : List Int), xs = [.ref p] ∧ SqL X.K H p (ns.map V.int) ∧ PyProof.Rows.SumFits ns ∧ Q (.int ns.sum) H) := by
 intro pins s σ H xs us Q I r h
 obtain ⟨p, ns, rfl, hp, hfit, q⟩ := h
 obtain ⟨u, rfl, ru⟩ := vals1 r
 cases ru
 obtain ⟨its, rv, pl, hz⟩ := I.list hp
 have hlt : p < s.heap.objs.size := by obtain ⟨_, e, _⟩ := pl.isList; exact Heap.lt_size e
 have hlen : its.length = ns.length := by rw [← rv.length, List.length_map]
 refine call_sum_walk (wpAny_pyIter_list pl.isList ?_)
 refine ⟨s.heap.objs.size, _, _, its.toArray.size, _, _, fun i => ns.getD i 0, rfl, Walks.list (A := X.A.in1) (I.ok.hd hc) s.heap.objs.size p (Nat.ne_of_lt hlt) its.toArray, ⟨⟨_, Heap.get?_push_size _ rfl, rfl, rfl⟩, pl.isList.push _⟩, fun b hb => ?_, fun i v hP => ?_, fun j hj => ?_, fun h' tk t' hk => ?_⟩
 ·have : b = s.heap.objs.size ∨ b = p := by simpa using hb
  rw [Heap.size_push]
  rcases this with e | e
  ·rw [e]; exact Nat.lt_succ_self _
  ·rw [e]; exact Nat.lt_succ_of_lt hlt
 ·have hv : its[i]? = some v := by simpa using hP
  have hi : i < ns.length := by rw [← hlen]; exact (List.getElem?_eq_some_iff.mp hv).1
  obtain ⟨u, hu, t, ru⟩ := rv.get (i := i) (x := V.int ns[i]) (by rw [List.getElem?_map, List.getElem?_eq_getElem hi]; rfl)
  rw [hv] at hu
  cases hu
  refine ⟨t, ?_⟩
  show _ = Value.int (ns.getD i 0) t
  rw [ru, List.getD_eq_getElem?_getD, List.getElem?_eq_getElem hi]
  rfl
 ·rw [List.size_toArray, hlen] at hj
  have := hfit j hj
  show InLong (ns.getD j 0) ∧ InLong (preSum (fun i => ns.getD i 0) (j + 1))
  rw [preSum_getD]
  exact this
 ·rw [preSum_getD, List.size_toArray, hlen, List.take_length]
  exact ⟨.int ns.sum, H, I.kept fun b o e => hk b o (by simp; exact Nat.ne_of_lt (Heap.lt_size e)) (Heap.get?_push_of_some _ e), ⟨_, rfl⟩, q⟩
end
end L2
set_option maxHeartbeats 4000000
namespace Ci
open PySem L2
theorem lim_le {n : Nat} (h : n ≤ LIM) : n ≤ sizeLine := Nat.le_trans h (by decide)
section
variable {X : Cx} {W : Wd} {H0 G H : Hp}
def Wants (W : Wd) (G H : Hp) (r : PV) (Q : VK) : Prop := ∀ v G' H', Grow G H G' H' → Rep W G' r v → Q v H'
theorem Wants.at {r : PV} {Q : VK} {v : V} (h : Wants W G H r Q) (s : Same G H) (k : Rep W G r v) : Q v H := h v G H (.refl s) k
theorem Wants.tup {xs : List PV} {Q : VK} {vs : List V} {p : Addr} (h : Wants W G H (.tup xs) Q) (s : Same G H) (k : RepL W G xs vs) (hp : H p = none) : Q (.ref p) (upd H p (.tup vs)) :=
 h _ _ _ (.new s hp) (.t (SqT.of upd_same) (RepL.same (same_upd (s.free hp)) xs k))
theorem Wants.lst {xs : List PV} {Q : VK} {vs : List V} {p : Addr} (h : Wants W G H (.lst xs) Q) (s : Same G H) (k : RepL W G xs vs) (hp : H p = none) : Q (.ref p) (upd H p (.lst vs)) :=
 h _ _ _ (.new s hp) (.l (.inl (.inl upd_same)) (RepL.same (same_upd (s.free hp)) xs k))
theorem eqs_len {f : PV → PV → Bool} : ∀ {xs ys : List PV}, xs.length ≠ ys.length → eqs f xs ys = false
 | [], [], h => absurd rfl h
 | _ :: xs, _ :: ys, h => by simp only [eqs]; rw [eqs_len (xs := xs) (ys := ys) (fun z => h (by simp [z]))]; simp
 | [], _ :: _, _ => rfl
 | _ :: _, [], _ => rfl
theorem eqs_all {f : PV → PV → Bool} : ∀ {xs ys : List PV}, xs.length = ys.length → eqs f xs ys = (List.range xs.length).all fun j => f (xs.getD j .non) (ys.getD j .non)
 | [], [], _ => rfl
 | x :: xs, y :: ys, h => by
  simp only [eqs]
  rw [eqs_all (xs := xs) (ys := ys) (by simpa using h), List.length_cons, List.range_succ_eq_map, List.all_cons, List.all_map]
  rfl
 | [], _ :: _, h => by simp at h
 | _ :: _, [], h => by simp at h
theorem eqs_short {f : PV → PV → Bool} : ∀ {xs ys : List PV}, ((List.range (min xs.length ys.length)).all (fun j => f (xs.getD j .non) (ys.getD j .non)) && xs.length == ys.length) = eqs f xs ys := fun {xs ys} => by
 by_cases h : xs.length = ys.length
 ·rw [eqs_all h, h, Nat.min_self, beq_self_eq_true, Bool.and_true]
 ·rw [eqs_len h, beq_eq_false_iff_ne.mpr h, Bool.and_false]
theorem eqs_refl {f : PV → PV → Bool} : ∀ {xs ys : List PV}, xs.length = ys.length → (∀ (j : Nat) x y, xs[j]? = some x → ys[j]? = some y → f x y = true) → eqs f xs ys = true
 | [], [], _, _ => rfl
 | x :: xs, y :: ys, h, k => by
  simp only [eqs]
  rw [k 0 x y rfl rfl, eqs_refl (xs := xs) (ys := ys) (by simpa using h) fun j a b ha hb => k (j + 1) a b (by simpa using ha) (by simpa using hb)]
  rfl
 | [], _ :: _, h, _ => by simp at h
 | _ :: _, [], h, _ => by simp at h
theorem sqL (hK : W.K = X.K) {a : Addr} {vs : List V} (h : LsR W.K H a vs) : SqL X.K H a vs := by
 rw [hK] at h
 rcases h with h | ⟨its, n, h1, h2, h3⟩
 ·exact .inl h
 ·exact .inr ⟨_, its, n, h1, rfl, rfl, rfl, h2, h3⟩
theorem not_both {pins : List (Addr × Obj)} {σ : St} {s : Shared} (I : Inv X pins σ H s) {a : Addr} {vs us : List V} (h1 : SqT X.K H a vs) (h2 : SqL X.K H a us) : False := by
 obtain ⟨its, _, ⟨o, e, hc, _⟩, _⟩ := I.tuple h1
 obtain ⟨its2, _, ⟨o2, n, e2, hc2, _⟩, _⟩ := I.list h2
 rw [e] at e2
 cases e2
 rw [hc] at hc2
 exact absurd hc2 (by decide)
theorem eq_same {pins : List (Addr × Obj)} {σ : St} {s : Shared} (I : Inv X pins σ H s) (hK : W.K = X.K) (sg : Same G H) : ∀ (n : Nat) {p q : PV} {v : V}, plain n p = true → plain n q = true → Top W H0 G H p v → Top W H0 G H q v → eqN n p q = true := by
 intro n
 induction n with
 | zero =>
  intro p q v hp hq h1 h2
  cases p with
  | non =>
   cases h1.non
   cases q with
   | non => cases h2.non; rfl
   | bl y => cases h2.bl
   | int y => cases h2.int
   | str y => cases h2.str
   | exc c => exact absurd hq Bool.false_ne_true
   | dct a b => exact absurd hq Bool.false_ne_true
   | tup xs => exact absurd hq Bool.false_ne_true
   | lst xs => exact absurd hq Bool.false_ne_true
  | bl x =>
   cases h1.bl
   cases q with
   | non => cases h2.non
   | bl y => cases h2.bl; exact beq_self_eq_true _
   | int y => cases h2.int
   | str y => cases h2.str
   | exc c => exact absurd hq Bool.false_ne_true
   | dct a b => exact absurd hq Bool.false_ne_true
   | tup xs => exact absurd hq Bool.false_ne_true
   | lst xs => exact absurd hq Bool.false_ne_true
  | int x =>
   cases h1.int
   cases q with
   | non => cases h2.non
   | bl y => cases h2.bl
   | int y => cases h2.int; exact beq_self_eq_true _
   | str y => cases h2.str
   | exc c => exact absurd hq Bool.false_ne_true
   | dct a b => exact absurd hq Bool.false_ne_true
   | tup xs => exact absurd hq Bool.false_ne_true
   | lst xs => exact absurd hq Bool.false_ne_true
  | str x =>
   cases h1.str
   cases q with
   | non => cases h2.non
   | bl y => cases h2.bl
   | int y => cases h2.int
   | str y => cases h2.str; exact beq_self_eq_true _
   | exc c => exact absurd hq Bool.false_ne_true
   | dct a b => exact absurd hq Bool.false_ne_true
   | tup xs => exact absurd hq Bool.false_ne_true
   | lst xs => exact absurd hq Bool.false_ne_true
  | exc c => exact absurd hp Bool.false_ne_true
  | dct a b => exact absurd hp Bool.false_ne_true
  | tup xs => exact absurd hp Bool.false_ne_true
  | lst xs => exact absurd hp Bool.false_ne_true
 | succ n ih =>
  intro p q v hp hq h1 h2
  have el : ∀ {xs ys : List PV} {vs : List V}, xs.all (plain n) = true → ys.all (plain n) = true → RepL W G xs vs → RepL W G ys vs → eqs (eqN n) xs ys = true := fun {xs ys vs} a1 a2 l1 l2 =>
   eqs_refl (by rw [← l1.length, l2.length]) fun j x y ex ey => by
    obtain ⟨u, eu, ku⟩ := l1.getP ex
    obtain ⟨y', ey', ky⟩ := l2.get eu
    rw [ey] at ey'
    cases ey'
    exact ih (List.all_eq_true.mp a1 _ (List.mem_of_getElem? ex)) (List.all_eq_true.mp a2 _ (List.mem_of_getElem? ey)) (.inl ku) (.inl ky)
  cases p with
  | exc c => exact absurd hp Bool.false_ne_true
  | dct a b => exact absurd hp Bool.false_ne_true
  | tup xs =>
   obtain ⟨a, vs, rfl, sq, l⟩ := h1.tup sg
   rw [hK] at sq
   cases q with
   | exc c => exact absurd hq Bool.false_ne_true
   | dct a b => exact absurd hq Bool.false_ne_true
   | non => cases h2.non
   | bl b => cases h2.bl
   | int b => cases h2.int
   | str b => cases h2.str
   | lst ys =>
    obtain ⟨b, us, e, sq20, l2⟩ := h2.lst sg
    have sq2 := sqL hK sq20
    cases e
    exact (not_both I sq sq2).elim
   | tup ys =>
    obtain ⟨b, us, e, sq2, l2⟩ := h2.tup sg
    rw [hK] at sq2
    cases e
    cases I.tuple_inj sq sq2
    exact el hp hq l l2
  | lst xs =>
   obtain ⟨a, vs, rfl, sq0, l⟩ := h1.lst sg
   have sq := sqL hK sq0
   cases q with
   | exc c => exact absurd hq Bool.false_ne_true
   | dct a b => exact absurd hq Bool.false_ne_true
   | non => cases h2.non
   | bl b => cases h2.bl
   | int b => cases h2.int
   | str b => cases h2.str
   | tup ys =>
    obtain ⟨b, us, e, sq2, l2⟩ := h2.tup sg
    rw [hK] at sq2
    cases e
    exact (not_both I sq2 sq).elim
   | lst ys =>
    obtain ⟨b, us, e, sq20, l2⟩ := h2.lst sg
    have sq2 := sqL hK sq20
    cases e
    cases I.list_inj sq sq2
    exact el hp hq l l2
  | non =>
   cases h1.non
   cases q with
   | non => cases h2.non; rfl
   | bl y => cases h2.bl
   | int y => cases h2.int
   | str y => cases h2.str
   | tup ys => obtain ⟨b, us, e, _⟩ := h2.tup sg; cases e
   | lst ys => obtain ⟨b, us, e, _⟩ := h2.lst sg; cases e
   | exc c => exact absurd hq Bool.false_ne_true
   | dct a b => exact absurd hq Bool.false_ne_true
  | bl x =>
   cases h1.bl
   cases q with
   | non => cases h2.non
   | bl y => cases h2.bl; exact beq_self_eq_true _
   | int y => cases h2.int
   | str y => cases h2.str
   | tup ys => obtain ⟨b, us, e, _⟩ := h2.tup sg; cases e
   | lst ys => obtain ⟨b, us, e, _⟩ := h2.lst sg; cases e
   | exc c => exact absurd hq Bool.false_ne_true
   | dct a b => exact absurd hq Bool.false_ne_true
  | int x =>
   cases h1.int
   cases q with
   | non => cases h2.non
   | bl y => cases h2.bl
   | int y => cases h2.int; exact beq_self_eq_true _
   | str y => cases h2.str
   | tup ys => obtain ⟨b, us, e, _⟩ := h2.tup sg; cases e
   | lst ys => obtain ⟨b, us, e, _⟩ := h2.lst sg; cases e
   | exc c => exact absurd hq Bool.false_ne_true
   | dct a b => exact absurd hq Bool.false_ne_true
  | str x =>
   cases h1.str
   cases q with
   | non => cases h2.non
   | bl y => cases h2.bl
   | int y => cases h2.int
   | str y => cases h2.str; exact beq_self_eq_true _
   | tup ys => obtain ⟨b, us, e, _⟩ := h2.tup sg; cases e
   | lst ys => obtain ⟨b, us, e, _⟩ := h2.lst sg; cases e
   | exc c => exact absurd hq Bool.false_ne_true
   | dct a b => exact absurd hq Bool.false_ne_true
theorem eq_flat {pins : List (Addr × Obj)} {σ : St} {s : Shared} {A : Around} {p q : PV} {v u : V} {v' u' : Value} (hp : plain 0 p = true) (hq : plain 0 q = true) (h1 : Top W H0 G H p v) (h2 : Top W H0 G H q u) (r1 : RelV v v') (r2 : RelV u u') (n : Nat) : SeqAt.EqAt A s v' u' (eqN n p q) := by
 cases p with
 | non =>
  cases h1.non; cases r1
  cases q with
  | non => cases h2.non; cases r2; cases n <;> exact SeqAt.EqAt.same _
  | bl y => cases h2.bl; cases r2; cases n <;> exact SeqAt.EqAt.none_bool _
  | int y => cases h2.int; obtain ⟨t2, rfl⟩ := r2; cases n <;> exact SeqAt.EqAt.none_int _ _
  | str y => cases h2.str; obtain ⟨t2, rfl⟩ := r2; cases n <;> exact SeqAt.EqAt.none_str _ _
  | exc c => exact absurd hq Bool.false_ne_true
  | dct a b => exact absurd hq Bool.false_ne_true
  | tup xs => exact absurd hq Bool.false_ne_true
  | lst xs => exact absurd hq Bool.false_ne_true
 | bl x =>
  cases h1.bl; cases r1
  cases q with
  | non => cases h2.non; cases r2; cases n <;> exact SeqAt.EqAt.bool_none _
  | bl y => cases h2.bl; cases r2; cases n <;> exact SeqAt.EqAt.bool_bool _ _
  | int y => cases h2.int; obtain ⟨t2, rfl⟩ := r2; cases n <;> exact SeqAt.EqAt.bool_int _ _ _
  | str y => cases h2.str; obtain ⟨t2, rfl⟩ := r2; cases n <;> exact SeqAt.EqAt.bool_str _ _ _
  | exc c => exact absurd hq Bool.false_ne_true
  | dct a b => exact absurd hq Bool.false_ne_true
  | tup xs => exact absurd hq Bool.false_ne_true
  | lst xs => exact absurd hq Bool.false_ne_true
 | int x =>
  cases h1.int; obtain ⟨t1, rfl⟩ := r1
  cases q with
  | non => cases h2.non; cases r2; cases n <;> exact SeqAt.EqAt.int_none _ _
  | bl y => cases h2.bl; cases r2; cases n <;> exact SeqAt.EqAt.int_bool _ _ _
  | int y => cases h2.int; obtain ⟨t2, rfl⟩ := r2; cases n <;> exact SeqAt.EqAt.int_int _ _ _ _
  | str y => cases h2.str; obtain ⟨t2, rfl⟩ := r2; cases n <;> exact SeqAt.EqAt.int_str _ _ _ _
  | exc c => exact absurd hq Bool.false_ne_true
  | dct a b => exact absurd hq Bool.false_ne_true
  | tup xs => exact absurd hq Bool.false_ne_true
  | lst xs => exact absurd hq Bool.false_ne_true
 | str x =>
  cases h1.str; obtain ⟨t1, rfl⟩ := r1
  cases q with
  | non => cases h2.non; cases r2; cases n <;> exact SeqAt.EqAt.str_none _ _
  | bl y => cases h2.bl; cases r2; cases n <;> exact SeqAt.EqAt.str_bool _ _ _
  | int y => cases h2.int; obtain ⟨t2, rfl⟩ := r2; cases n <;> exact SeqAt.EqAt.str_int _ _ _ _
  | str y => cases h2.str; obtain ⟨t2, rfl⟩ := r2; cases n <;> exact SeqAt.EqAt.str_str _ _ _ _
  | exc c => exact absurd hq Bool.false_ne_true
  | dct a b => exact absurd hq Bool.false_ne_true
  | tup xs => exact absurd hq Bool.false_ne_true
  | lst xs => exact absurd hq Bool.false_ne_true
 | exc c => exact absurd hp Bool.false_ne_true
 | dct a b => exact absurd hp Bool.false_ne_true
 | tup xs => exact absurd hp Bool.false_ne_true
 | lst xs => exact absurd hp Bool.false_ne_true
theorem eq_at {pins : List (Addr × Obj)} {σ : St} {s : Shared} (I : Inv X pins σ H s) (hK : W.K = X.K) (sg : Same G H) : ∀ (n : Nat) {A : Around} {p q : PV} {v u : V} {v' u' : Value}, A.units + (n + 1) < cLine → plain n p = true → plain n q = true → Top W H0 G H p v → Top W H0 G H q u → RelV v v' → RelV u u' →
 SeqAt.EqAt A s v' u' (eqN n p q) := by
 intro n
 induction n with
 | zero =>
  intro A p q v u v' u' hu hp hq h1 h2 r1 r2
  exact eq_flat (pins := pins) (σ := σ) hp hq h1 h2 r1 r2 0
 | succ n ih =>
  intro A p q v u v' u' hu hp hq h1 h2 r1 r2
  have hu0 : A.units < cLine := by omega
  have el : ∀ {xs ys : List PV} {vs us : List V} {its its2 : List Value}, xs.all (plain n) = true → ys.all (plain n) = true → RepL W G xs vs → RepL W G ys us → Vals vs its → Vals us its2 → ∀ j (h1 : j < its.toArray.size) (h2 : j < its2.toArray.size),
   SeqAt.EqAt A.in1 s its.toArray[j] its2.toArray[j] (eqN n (xs.getD j .non) (ys.getD j .non)) := fun {xs ys vs us its its2} a1 a2 l1 l2 q1 q2 j g1 g2 => by
   obtain ⟨x, hx, rx⟩ := val_at q1 g1
   obtain ⟨y, hy, ry⟩ := val_at q2 g2
   obtain ⟨px, ex, kx⟩ := l1.get hx
   obtain ⟨py, ey, ky⟩ := l2.get hy
   rw [List.getD_eq_getElem?_getD, List.getD_eq_getElem?_getD, ex, ey]
   exact ih (by show A.units + 1 + (n + 1) < _; omega) (List.all_eq_true.mp a1 _ (List.mem_of_getElem? ex)) (List.all_eq_true.mp a2 _ (List.mem_of_getElem? ey)) (.inl kx) (.inl ky) rx ry
  cases p with
  | exc c => exact absurd hp Bool.false_ne_true
  | dct a b => exact absurd hp Bool.false_ne_true
  | tup xs =>
   have h1' := h1
   obtain ⟨a, vs, rfl, sq, l⟩ := h1.tup sg
   rw [hK] at sq
   cases r1
   obtain ⟨its, q1, z1, _⟩ := I.tuple sq
   have z1' : s.heap.IsTuple a its.toArray := z1
   cases q with
   | exc c => exact absurd hq Bool.false_ne_true
   | dct a b => exact absurd hq Bool.false_ne_true
   | non => cases h2.non; cases r2; exact SeqAt.EqAt.tuple_none z1' hu0
   | bl b => cases h2.bl; cases r2; exact SeqAt.EqAt.tuple_bool _ z1' hu0
   | int b => cases h2.int; obtain ⟨t2, rfl⟩ := r2; exact SeqAt.EqAt.tuple_int _ _ z1' hu0
   | str b => cases h2.str; obtain ⟨t2, rfl⟩ := r2; exact SeqAt.EqAt.tuple_str _ _ z1' hu0
   | lst ys =>
    obtain ⟨b, us, rfl, sq20, l2⟩ := h2.lst sg
    have sq2 := sqL hK sq20
    cases r2
    obtain ⟨its2, q2, z2, _⟩ := I.list sq2
    exact SeqAt.EqAt.tuple_list z1' z2.isList hu0
   | tup ys =>
    have h2' := h2
    obtain ⟨b, us, rfl, sq2, l2⟩ := h2.tup sg
    rw [hK] at sq2
    cases r2
    obtain ⟨its2, q2, z2, _⟩ := I.tuple sq2
    have m1 : its.length = xs.length := by rw [← q1.length, l.length]
    have m2 : its2.length = ys.length := by rw [← q2.length, l2.length]
    by_cases hne : a = b
    ·subst hne
     rw [eq_same I hK sg (n + 1) hp hq h1' h2']
     exact SeqAt.EqAt.same _
    ·refine SeqAt.EqAt.of_refs hne ?_
     have := SeqAt.RcAt.tuples (e := fun j => eqN n (xs.getD j .non) (ys.getD j .non)) z1' (show s.heap.IsTuple b its2.toArray from z2) hu0 (el hp hq l l2 q1 q2)
     rw [List.size_toArray, List.size_toArray, m1, m2, eqs_short] at this
     exact this
  | lst xs =>
   have h1' := h1
   obtain ⟨a, vs, rfl, sq0, l⟩ := h1.lst sg
   have sq := sqL hK sq0
   cases r1
   obtain ⟨its, q1, z1, _⟩ := I.list sq
   cases q with
   | exc c => exact absurd hq Bool.false_ne_true
   | dct a b => exact absurd hq Bool.false_ne_true
   | non => cases h2.non; cases r2; exact SeqAt.EqAt.list_none z1.isList hu0
   | bl b => cases h2.bl; cases r2; exact SeqAt.EqAt.list_bool _ z1.isList hu0
   | int b => cases h2.int; obtain ⟨t2, rfl⟩ := r2; exact SeqAt.EqAt.list_int _ _ z1.isList hu0
   | str b => cases h2.str; obtain ⟨t2, rfl⟩ := r2; exact SeqAt.EqAt.list_str _ _ z1.isList hu0
   | tup ys =>
    obtain ⟨b, us, rfl, sq2, l2⟩ := h2.tup sg
    rw [hK] at sq2
    cases r2
    obtain ⟨its2, q2, z2, _⟩ := I.tuple sq2
    exact SeqAt.EqAt.list_tuple z1.isList (show s.heap.IsTuple b its2.toArray from z2) hu0
   | lst ys =>
    have h2' := h2
    obtain ⟨b, us, rfl, sq20, l2⟩ := h2.lst sg
    have sq2 := sqL hK sq20
    cases r2
    obtain ⟨its2, q2, z2, _⟩ := I.list sq2
    have m1 : its.length = xs.length := by rw [← q1.length, l.length]
    have m2 : its2.length = ys.length := by rw [← q2.length, l2.length]
    by_cases hne : a = b
    ·subst hne
     rw [eq_same I hK sg (n + 1) hp hq h1' h2']
     exact SeqAt.EqAt.same _
    ·refine SeqAt.EqAt.of_refs hne ?_
     by_cases hl : xs.length = ys.length
     ·have := SeqAt.RcAt.lists (e := fun j => eqN n (xs.getD j .non) (ys.getD j .non)) z1.isList z2.isList (by rw [List.size_toArray, List.size_toArray]; omega) hu0 (el hp hq l l2 q1 q2)
      rw [List.size_toArray, m1, ← eqs_all hl] at this
      exact this
     ·have := SeqAt.RcAt.lists_lengths z1.isList z2.isList (by rw [List.size_toArray, List.size_toArray, m1, m2]; simp [hl]) hu0
      show SeqAt.RcAt _ _ _ _ (eqs (eqN n) xs ys)
      rw [eqs_len hl]
      exact this
  | non =>
   have h1' := h1
   cases h1.non; cases r1
   cases q with
   | tup ys =>
    obtain ⟨b, us, rfl, sq2, l2⟩ := h2.tup sg
    rw [hK] at sq2
    cases r2
    obtain ⟨its2, q2, z2, _⟩ := I.tuple sq2
    exact SeqAt.EqAt.none_tuple (show s.heap.IsTuple b its2.toArray from z2) hu0
   | lst ys =>
    obtain ⟨b, us, rfl, sq20, l2⟩ := h2.lst sg
    have sq2 := sqL hK sq20
    cases r2
    obtain ⟨its2, q2, z2, _⟩ := I.list sq2
    exact SeqAt.EqAt.none_list z2.isList hu0
   | exc c => exact absurd hq Bool.false_ne_true
   | dct a b => exact absurd hq Bool.false_ne_true
   | _ => exact eq_flat (pins := pins) (σ := σ) rfl rfl h1' h2 rfl r2 (n + 1)
  | bl x =>
   have h1' := h1
   cases h1.bl; cases r1
   cases q with
   | tup ys =>
    obtain ⟨b, us, rfl, sq2, l2⟩ := h2.tup sg
    rw [hK] at sq2
    cases r2
    obtain ⟨its2, q2, z2, _⟩ := I.tuple sq2
    exact SeqAt.EqAt.bool_tuple _ (show s.heap.IsTuple b its2.toArray from z2) hu0
   | lst ys =>
    obtain ⟨b, us, rfl, sq20, l2⟩ := h2.lst sg
    have sq2 := sqL hK sq20
    cases r2
    obtain ⟨its2, q2, z2, _⟩ := I.list sq2
    exact SeqAt.EqAt.bool_list _ z2.isList hu0
   | exc c => exact absurd hq Bool.false_ne_true
   | dct a b => exact absurd hq Bool.false_ne_true
   | _ => exact eq_flat (pins := pins) (σ := σ) rfl rfl h1' h2 rfl r2 (n + 1)
  | int x =>
   have h1' := h1
   have r1' := r1
   cases h1.int; obtain ⟨t, rfl⟩ := r1
   cases q with
   | tup ys =>
    obtain ⟨b, us, rfl, sq2, l2⟩ := h2.tup sg
    rw [hK] at sq2
    cases r2
    obtain ⟨its2, q2, z2, _⟩ := I.tuple sq2
    exact SeqAt.EqAt.int_tuple _ _ (show s.heap.IsTuple b its2.toArray from z2) hu0
   | lst ys =>
    obtain ⟨b, us, rfl, sq20, l2⟩ := h2.lst sg
    have sq2 := sqL hK sq20
    cases r2
    obtain ⟨its2, q2, z2, _⟩ := I.list sq2
    exact SeqAt.EqAt.int_list _ _ z2.isList hu0
   | exc c => exact absurd hq Bool.false_ne_true
   | dct a b => exact absurd hq Bool.false_ne_true
   | _ => exact eq_flat (pins := pins) (σ := σ) rfl rfl h1' h2 r1' r2 (n + 1)
  | str x =>
   have h1' := h1
   have r1' := r1
   cases h1.str; obtain ⟨t, rfl⟩ := r1
   cases q with
   | tup ys =>
    obtain ⟨b, us, rfl, sq2, l2⟩ := h2.tup sg
    rw [hK] at sq2
    cases r2
    obtain ⟨its2, q2, z2, _⟩ := I.tuple sq2
    exact SeqAt.EqAt.str_tuple _ _ (show s.heap.IsTuple b its2.toArray from z2) hu0
   | lst ys =>
    obtain ⟨b, us, rfl, sq20, l2⟩ := h2.lst sg
    have sq2 := sqL hK sq20
    cases r2
    obtain ⟨its2, q2, z2, _⟩ := I.list sq2
    exact SeqAt.EqAt.str_list _ _ z2.isList hu0
   | exc c => exact absurd hq Bool.false_ne_true
   | dct a b => exact absurd hq Bool.false_ne_true
   | _ => exact eq_flat (pins := pins) (σ := σ) rfl rfl h1' h2 r1' r2 (n + 1)
end
end Ci
set_option maxHeartbeats 4000000
namespace Ci
open PySem L2
section
variable {X : Cx} {W : Wd} {H0 G H : Hp}
theorem rc_at {pins : List (Addr × Obj)} {σ : St} {s : Shared} (I : Inv X pins σ H s) (hK : W.K = X.K) (sg : Same G H) (n : Nat) {A : Around} {p q : PV} {v u : V} {v' u' : Value} (hu : A.units + (n + 2) < cLine) (hp : plain (n + 1) p = true) (hq : plain (n + 1) q = true) (h1 : Top W H0 G H p v) (h2 : Top W H0 G H q u) (r1 : RelV v v') (r2 : RelV u u') :
 SeqAt.RcAt A s v' u' (eqN (n + 1) p q) := by
 have hu0 : A.units < cLine := by omega
 have el : ∀ {xs ys : List PV} {vs us : List V} {its its2 : List Value}, xs.all (plain n) = true → ys.all (plain n) = true → RepL W G xs vs → RepL W G ys us → Vals vs its → Vals us its2 → ∀ j (h1 : j < its.toArray.size) (h2 : j < its2.toArray.size),
  SeqAt.EqAt A.in1 s its.toArray[j] its2.toArray[j] (eqN n (xs.getD j .non) (ys.getD j .non)) := fun {xs ys vs us its its2} a1 a2 l1 l2 q1 q2 j g1 g2 => by
  obtain ⟨x, hx, rx⟩ := val_at q1 g1
  obtain ⟨y, hy, ry⟩ := val_at q2 g2
  obtain ⟨px, ex, kx⟩ := l1.get hx
  obtain ⟨py, ey, ky⟩ := l2.get hy
  rw [List.getD_eq_getElem?_getD, List.getD_eq_getElem?_getD, ex, ey]
  exact eq_at (H0 := H0) I hK sg n (by show A.units + 1 + (n + 1) < _; omega) (List.all_eq_true.mp a1 _ (List.mem_of_getElem? ex)) (List.all_eq_true.mp a2 _ (List.mem_of_getElem? ey)) (.inl kx) (.inl ky) rx ry
 cases p with
 | non =>
  cases h1.non; cases r1
  cases q with
  | non => cases h2.non; cases r2; exact SeqAt.RcAt.none_none
  | bl y => cases h2.bl; cases r2; exact SeqAt.RcAt.none_bool _
  | int y => cases h2.int; obtain ⟨t2, rfl⟩ := r2; exact SeqAt.RcAt.none_int _ _
  | str y => cases h2.str; obtain ⟨t2, rfl⟩ := r2; exact SeqAt.RcAt.none_str _ _
  | tup ys =>
   obtain ⟨b, us, rfl, sq2, l2⟩ := h2.tup sg
   rw [hK] at sq2
   cases r2
   obtain ⟨its2, q2, z2, _⟩ := I.tuple sq2
   exact SeqAt.RcAt.none_tuple (show s.heap.IsTuple b its2.toArray from z2) hu0
  | lst ys =>
   obtain ⟨b, us, rfl, sq2, l2⟩ := h2.lst sg
   cases r2
   obtain ⟨its2, q2, z2, _⟩ := I.list (sqL hK sq2)
   exact SeqAt.RcAt.none_list z2.isList hu0
  | exc c => exact absurd hq Bool.false_ne_true
  | dct a b => exact absurd hq Bool.false_ne_true
 | bl x =>
  cases h1.bl; cases r1
  cases q with
  | non => cases h2.non; cases r2; exact SeqAt.RcAt.bool_none _
  | bl y => cases h2.bl; cases r2; exact SeqAt.RcAt.bool_bool _ _
  | int y => cases h2.int; obtain ⟨t2, rfl⟩ := r2; exact SeqAt.RcAt.bool_int _ _ _
  | str y => cases h2.str; obtain ⟨t2, rfl⟩ := r2; exact SeqAt.RcAt.bool_str _ _ _
  | tup ys =>
   obtain ⟨b, us, rfl, sq2, l2⟩ := h2.tup sg
   rw [hK] at sq2
   cases r2
   obtain ⟨its2, q2, z2, _⟩ := I.tuple sq2
   exact SeqAt.RcAt.bool_tuple _ (show s.heap.IsTuple b its2.toArray from z2) hu0
  | lst ys =>
   obtain ⟨b, us, rfl, sq2, l2⟩ := h2.lst sg
   cases r2
   obtain ⟨its2, q2, z2, _⟩ := I.list (sqL hK sq2)
   exact SeqAt.RcAt.bool_list _ z2.isList hu0
  | exc c => exact absurd hq Bool.false_ne_true
  | dct a b => exact absurd hq Bool.false_ne_true
 | int x =>
  cases h1.int; obtain ⟨t1, rfl⟩ := r1
  cases q with
  | non => cases h2.non; cases r2; exact SeqAt.RcAt.int_none _ _
  | bl y => cases h2.bl; cases r2; exact SeqAt.RcAt.int_bool _ _ _
  | int y => cases h2.int; obtain ⟨t2, rfl⟩ := r2; exact SeqAt.RcAt.int_int _ _ _ _
  | str y => cases h2.str; obtain ⟨t2, rfl⟩ := r2; exact SeqAt.RcAt.int_str _ _ _ _
  | tup ys =>
   obtain ⟨b, us, rfl, sq2, l2⟩ := h2.tup sg
   rw [hK] at sq2
   cases r2
   obtain ⟨its2, q2, z2, _⟩ := I.tuple sq2
   exact SeqAt.RcAt.int_tuple _ _ (show s.heap.IsTuple b its2.toArray from z2) hu0
  | lst ys =>
   obtain ⟨b, us, rfl, sq2, l2⟩ := h2.lst sg
   cases r2
   obtain ⟨its2, q2, z2, _⟩ := I.list (sqL hK sq2)
   exact SeqAt.RcAt.int_list _ _ z2.isList hu0
  | exc c => exact absurd hq Bool.false_ne_true
  | dct a b => exact absurd hq Bool.false_ne_true
 | str x =>
  cases h1.str; obtain ⟨t1, rfl⟩ := r1
  cases q with
  | non => cases h2.non; cases r2; exact SeqAt.RcAt.str_none _ _
  | bl y => cases h2.bl; cases r2; exact SeqAt.RcAt.str_bool _ _ _
  | int y => cases h2.int; obtain ⟨t2, rfl⟩ := r2; exact SeqAt.RcAt.str_int _ _ _ _
  | str y => cases h2.str; obtain ⟨t2, rfl⟩ := r2; exact SeqAt.RcAt.str_str _ _ _ _
  | tup ys =>
   obtain ⟨b, us, rfl, sq2, l2⟩ := h2.tup sg
   rw [hK] at sq2
   cases r2
   obtain ⟨its2, q2, z2, _⟩ := I.tuple sq2
   exact SeqAt.RcAt.str_tuple _ _ (show s.heap.IsTuple b its2.toArray from z2) hu0
  | lst ys =>
   obtain ⟨b, us, rfl, sq2, l2⟩ := h2.lst sg
   cases r2
   obtain ⟨its2, q2, z2, _⟩ := I.list (sqL hK sq2)
   exact SeqAt.RcAt.str_list _ _ z2.isList hu0
  | exc c => exact absurd hq Bool.false_ne_true
  | dct a b => exact absurd hq Bool.false_ne_true
 | tup xs =>
  obtain ⟨a, vs, rfl, sq, l⟩ := h1.tup sg
  cases r1
  rw [hK] at sq
  obtain ⟨its, q1, z1, _⟩ := I.tuple sq
  have z1' : s.heap.IsTuple a its.toArray := z1
  cases q with
  | non => cases h2.non; cases r2; exact SeqAt.RcAt.tuple_none z1' hu0
  | bl y => cases h2.bl; cases r2; exact SeqAt.RcAt.tuple_bool _ z1' hu0
  | int y => cases h2.int; obtain ⟨t2, rfl⟩ := r2; exact SeqAt.RcAt.tuple_int _ _ z1' hu0
  | str y => cases h2.str; obtain ⟨t2, rfl⟩ := r2; exact SeqAt.RcAt.tuple_str _ _ z1' hu0
  | exc c => exact absurd hq Bool.false_ne_true
  | dct a b => exact absurd hq Bool.false_ne_true
  | lst ys =>
   obtain ⟨b, us, rfl, sq2, l2⟩ := h2.lst sg
   cases r2
   obtain ⟨its2, q2, z2, _⟩ := I.list (sqL hK sq2)
   have z2' := z2.isList
   exact SeqAt.RcAt.tuple_list z1' z2' hu0
  | tup ys =>
   obtain ⟨b, us, rfl, sq2, l2⟩ := h2.tup sg
   cases r2
   rw [hK] at sq2
   obtain ⟨its2, q2, z2, _⟩ := I.tuple sq2
   have z2' : s.heap.IsTuple b its2.toArray := z2
   have m1 : its.length = xs.length := by rw [← q1.length, l.length]
   have m2 : its2.length = ys.length := by rw [← q2.length, l2.length]
   have := SeqAt.RcAt.tuples (e := fun j => eqN n (xs.getD j .non) (ys.getD j .non)) z1' z2' hu0 (el hp hq l l2 q1 q2)
   rw [List.size_toArray, List.size_toArray, m1, m2, eqs_short] at this
   exact this
 | lst xs =>
  obtain ⟨a, vs, rfl, sq, l⟩ := h1.lst sg
  cases r1
  obtain ⟨its, q1, z1, _⟩ := I.list (sqL hK sq)
  have z1' := z1.isList
  cases q with
  | non => cases h2.non; cases r2; exact SeqAt.RcAt.list_none z1' hu0
  | bl y => cases h2.bl; cases r2; exact SeqAt.RcAt.list_bool _ z1' hu0
  | int y => cases h2.int; obtain ⟨t2, rfl⟩ := r2; exact SeqAt.RcAt.list_int _ _ z1' hu0
  | str y => cases h2.str; obtain ⟨t2, rfl⟩ := r2; exact SeqAt.RcAt.list_str _ _ z1' hu0
  | exc c => exact absurd hq Bool.false_ne_true
  | dct a b => exact absurd hq Bool.false_ne_true
  | tup ys =>
   obtain ⟨b, us, rfl, sq2, l2⟩ := h2.tup sg
   cases r2
   rw [hK] at sq2
   obtain ⟨its2, q2, z2, _⟩ := I.tuple sq2
   have z2' : s.heap.IsTuple b its2.toArray := z2
   exact SeqAt.RcAt.list_tuple z1' z2' hu0
  | lst ys =>
   obtain ⟨b, us, rfl, sq2, l2⟩ := h2.lst sg
   cases r2
   obtain ⟨its2, q2, z2, _⟩ := I.list (sqL hK sq2)
   have z2' := z2.isList
   have m1 : its.length = xs.length := by rw [← q1.length, l.length]
   have m2 : its2.length = ys.length := by rw [← q2.length, l2.length]
   by_cases hl : xs.length = ys.length
   ·have := SeqAt.RcAt.lists (e := fun j => eqN n (xs.getD j .non) (ys.getD j .non)) z1' z2' (by rw [List.size_toArray, List.size_toArray]; omega) hu0 (el hp hq l l2 q1 q2)
    rw [List.size_toArray, m1, ← eqs_all hl] at this
    exact this
   ·have := SeqAt.RcAt.lists_lengths z1' z2' (by rw [List.size_toArray, List.size_toArray, m1, m2]; simp [hl]) hu0
    show SeqAt.RcAt _ _ _ _ (eqs (eqN n) xs ys)
    rw [eqs_len hl]
    exact this
 | exc c => exact absurd hp Bool.false_ne_true
 | dct a b => exact absurd hp Bool.false_ne_true
theorem rcne_at {pins : List (Addr × Obj)} {σ : St} {s : Shared} (I : Inv X pins σ H s) (hK : W.K = X.K) (sg : Same G H) (n : Nat) {A : Around} {p q : PV} {v u : V} {v' u' : Value} (hu : A.units + (n + 2) < cLine) (hp : plain (n + 1) p = true) (hq : plain (n + 1) q = true) (h1 : Top W H0 G H p v) (h2 : Top W H0 G H q u) (r1 : RelV v v') (r2 : RelV u u') :
 SeqAt.RcNeAt A s v' u' (!eqN (n + 1) p q) := by
 have hu0 : A.units < cLine := by omega
 have el : ∀ {xs ys : List PV} {vs us : List V} {its its2 : List Value}, xs.all (plain n) = true → ys.all (plain n) = true → RepL W G xs vs → RepL W G ys us → Vals vs its → Vals us its2 → ∀ j (h1 : j < its.toArray.size) (h2 : j < its2.toArray.size),
  SeqAt.EqAt A.in1 s its.toArray[j] its2.toArray[j] (eqN n (xs.getD j .non) (ys.getD j .non)) := fun {xs ys vs us its its2} a1 a2 l1 l2 q1 q2 j g1 g2 => by
  obtain ⟨x, hx, rx⟩ := val_at q1 g1
  obtain ⟨y, hy, ry⟩ := val_at q2 g2
  obtain ⟨px, ex, kx⟩ := l1.get hx
  obtain ⟨py, ey, ky⟩ := l2.get hy
  rw [List.getD_eq_getElem?_getD, List.getD_eq_getElem?_getD, ex, ey]
  exact eq_at (H0 := H0) I hK sg n (by show A.units + 1 + (n + 1) < _; omega) (List.all_eq_true.mp a1 _ (List.mem_of_getElem? ex)) (List.all_eq_true.mp a2 _ (List.mem_of_getElem? ey)) (.inl kx) (.inl ky) rx ry
 cases p with
 | non =>
  cases h1.non; cases r1
  cases q with
  | non => cases h2.non; cases r2; exact SeqAt.RcNeAt.none_none
  | bl y => cases h2.bl; cases r2; exact SeqAt.RcNeAt.none_bool _
  | int y => cases h2.int; obtain ⟨t2, rfl⟩ := r2; exact SeqAt.RcNeAt.none_int _ _
  | str y => cases h2.str; obtain ⟨t2, rfl⟩ := r2; exact SeqAt.RcNeAt.none_str _ _
  | tup ys =>
   obtain ⟨b, us, rfl, sq2, l2⟩ := h2.tup sg
   rw [hK] at sq2
   cases r2
   obtain ⟨its2, q2, z2, _⟩ := I.tuple sq2
   exact SeqAt.RcNeAt.none_tuple (show s.heap.IsTuple b its2.toArray from z2) hu0
  | lst ys =>
   obtain ⟨b, us, rfl, sq2, l2⟩ := h2.lst sg
   cases r2
   obtain ⟨its2, q2, z2, _⟩ := I.list (sqL hK sq2)
   exact SeqAt.RcNeAt.none_list z2.isList hu0
  | exc c => exact absurd hq Bool.false_ne_true
  | dct a b => exact absurd hq Bool.false_ne_true
 | bl x =>
  cases h1.bl; cases r1
  cases q with
  | non => cases h2.non; cases r2; exact SeqAt.RcNeAt.bool_none _
  | bl y => cases h2.bl; cases r2; exact SeqAt.RcNeAt.bool_bool _ _
  | int y => cases h2.int; obtain ⟨t2, rfl⟩ := r2; exact SeqAt.RcNeAt.bool_int _ _ _
  | str y => cases h2.str; obtain ⟨t2, rfl⟩ := r2; exact SeqAt.RcNeAt.bool_str _ _ _
  | tup ys =>
   obtain ⟨b, us, rfl, sq2, l2⟩ := h2.tup sg
   rw [hK] at sq2
   cases r2
   obtain ⟨its2, q2, z2, _⟩ := I.tuple sq2
   exact SeqAt.RcNeAt.bool_tuple _ (show s.heap.IsTuple b its2.toArray from z2) hu0
  | lst ys =>
   obtain ⟨b, us, rfl, sq2, l2⟩ := h2.lst sg
   cases r2
   obtain ⟨its2, q2, z2, _⟩ := I.list (sqL hK sq2)
   exact SeqAt.RcNeAt.bool_list _ z2.isList hu0
  | exc c => exact absurd hq Bool.false_ne_true
  | dct a b => exact absurd hq Bool.false_ne_true
 | int x =>
  cases h1.int; obtain ⟨t1, rfl⟩ := r1
  cases q with
  | non => cases h2.non; cases r2; exact SeqAt.RcNeAt.int_none _ _
  | bl y => cases h2.bl; cases r2; exact SeqAt.RcNeAt.int_bool _ _ _
  | int y => cases h2.int; obtain ⟨t2, rfl⟩ := r2; exact SeqAt.RcNeAt.int_int _ _ _ _
  | str y => cases h2.str; obtain ⟨t2, rfl⟩ := r2; exact SeqAt.RcNeAt.int_str _ _ _ _
  | tup ys =>
   obtain ⟨b, us, rfl, sq2, l2⟩ := h2.tup sg
   rw [hK] at sq2
   cases r2
   obtain ⟨its2, q2, z2, _⟩ := I.tuple sq2
   exact SeqAt.RcNeAt.int_tuple _ _ (show s.heap.IsTuple b its2.toArray from z2) hu0
  | lst ys =>
   obtain ⟨b, us, rfl, sq2, l2⟩ := h2.lst sg
   cases r2
   obtain ⟨its2, q2, z2, _⟩ := I.list (sqL hK sq2)
   exact SeqAt.RcNeAt.int_list _ _ z2.isList hu0
  | exc c => exact absurd hq Bool.false_ne_true
  | dct a b => exact absurd hq Bool.false_ne_true
 | str x =>
  cases h1.str; obtain ⟨t1, rfl⟩ := r1
  cases q with
  | non => cases h2.non; cases r2; exact SeqAt.RcNeAt.str_none _ _
  | bl y => cases h2.bl; cases r2; exact SeqAt.RcNeAt.str_bool _ _ _
  | int y => cases h2.int; obtain ⟨t2, rfl⟩ := r2; exact SeqAt.RcNeAt.str_int _ _ _ _
  | str y => cases h2.str; obtain ⟨t2, rfl⟩ := r2; exact SeqAt.RcNeAt.str_str _ _ _ _
  | tup ys =>
   obtain ⟨b, us, rfl, sq2, l2⟩ := h2.tup sg
   rw [hK] at sq2
   cases r2
   obtain ⟨its2, q2, z2, _⟩ := I.tuple sq2
   exact SeqAt.RcNeAt.str_tuple _ _ (show s.heap.IsTuple b its2.toArray from z2) hu0
  | lst ys =>
   obtain ⟨b, us, rfl, sq2, l2⟩ := h2.lst sg
   cases r2
   obtain ⟨its2, q2, z2, _⟩ := I.list (sqL hK sq2)
   exact SeqAt.RcNeAt.str_list _ _ z2.isList hu0
  | exc c => exact absurd hq Bool.false_ne_true
  | dct a b => exact absurd hq Bool.false_ne_true
 | tup xs =>
  obtain ⟨a, vs, rfl, sq, l⟩ := h1.tup sg
  cases r1
  rw [hK] at sq
  obtain ⟨its, q1, z1, _⟩ := I.tuple sq
  have z1' : s.heap.IsTuple a its.toArray := z1
  cases q with
  | non => cases h2.non; cases r2; exact SeqAt.RcNeAt.tuple_none z1' hu0
  | bl y => cases h2.bl; cases r2; exact SeqAt.RcNeAt.tuple_bool _ z1' hu0
  | int y => cases h2.int; obtain ⟨t2, rfl⟩ := r2; exact SeqAt.RcNeAt.tuple_int _ _ z1' hu0
  | str y => cases h2.str; obtain ⟨t2, rfl⟩ := r2; exact SeqAt.RcNeAt.tuple_str _ _ z1' hu0
  | exc c => exact absurd hq Bool.false_ne_true
  | dct a b => exact absurd hq Bool.false_ne_true
  | lst ys =>
   obtain ⟨b, us, rfl, sq2, l2⟩ := h2.lst sg
   cases r2
   obtain ⟨its2, q2, z2, _⟩ := I.list (sqL hK sq2)
   have z2' := z2.isList
   exact SeqAt.RcNeAt.tuple_list z1' z2' hu0
  | tup ys =>
   obtain ⟨b, us, rfl, sq2, l2⟩ := h2.tup sg
   cases r2
   rw [hK] at sq2
   obtain ⟨its2, q2, z2, _⟩ := I.tuple sq2
   have z2' : s.heap.IsTuple b its2.toArray := z2
   have m1 : its.length = xs.length := by rw [← q1.length, l.length]
   have m2 : its2.length = ys.length := by rw [← q2.length, l2.length]
   have := SeqAt.RcNeAt.tuples (e := fun j => eqN n (xs.getD j .non) (ys.getD j .non)) z1' z2' hu0 (el hp hq l l2 q1 q2)
   rw [List.size_toArray, List.size_toArray, m1, m2, eqs_short] at this
   exact this
 | lst xs =>
  obtain ⟨a, vs, rfl, sq, l⟩ := h1.lst sg
  cases r1
  obtain ⟨its, q1, z1, _⟩ := I.list (sqL hK sq)
  have z1' := z1.isList
  cases q with
  | non => cases h2.non; cases r2; exact SeqAt.RcNeAt.list_none z1' hu0
  | bl y => cases h2.bl; cases r2; exact SeqAt.RcNeAt.list_bool _ z1' hu0
  | int y => cases h2.int; obtain ⟨t2, rfl⟩ := r2; exact SeqAt.RcNeAt.list_int _ _ z1' hu0
  | str y => cases h2.str; obtain ⟨t2, rfl⟩ := r2; exact SeqAt.RcNeAt.list_str _ _ z1' hu0
  | exc c => exact absurd hq Bool.false_ne_true
  | dct a b => exact absurd hq Bool.false_ne_true
  | tup ys =>
   obtain ⟨b, us, rfl, sq2, l2⟩ := h2.tup sg
   cases r2
   rw [hK] at sq2
   obtain ⟨its2, q2, z2, _⟩ := I.tuple sq2
   have z2' : s.heap.IsTuple b its2.toArray := z2
   exact SeqAt.RcNeAt.list_tuple z1' z2' hu0
  | lst ys =>
   obtain ⟨b, us, rfl, sq2, l2⟩ := h2.lst sg
   cases r2
   obtain ⟨its2, q2, z2, _⟩ := I.list (sqL hK sq2)
   have z2' := z2.isList
   have m1 : its.length = xs.length := by rw [← q1.length, l.length]
   have m2 : its2.length = ys.length := by rw [← q2.length, l2.length]
   by_cases hl : xs.length = ys.length
   ·have := SeqAt.RcNeAt.lists (e := fun j => eqN n (xs.getD j .non) (ys.getD j .non)) z1' z2' (by rw [List.size_toArray, List.size_toArray]; omega) hu0 (el hp hq l l2 q1 q2)
    rw [List.size_toArray, m1, ← eqs_all hl] at this
    exact this
   ·have := SeqAt.RcNeAt.lists_lengths z1' z2' (by rw [List.size_toArray, List.size_toArray, m1, m2]; simp [hl]) hu0
    show SeqAt.RcNeAt _ _ _ _ (!eqs (eqN n) xs ys)
    rw [eqs_len hl]
    exact this
 | exc c => exact absurd hp Bool.false_ne_true
 | dct a b => exact absurd hp Bool.false_ne_true
end
end Ci
set_option maxHeartbeats 4000000
namespace Ci
open PySem L2
section
variable {X : Cx} {W : Wd}
theorem lstR (hK : W.K = X.K) {pins : List (Addr × Obj)} {σ : St} {H : Hp} {s : Shared} {a : Addr} {xs : List V} (I : Inv X pins σ H s) (h : LsR W.K H a xs) : ∃ (its : List Value) (n : Nat), Vals xs its ∧ xs.length = its.length ∧ xs.length ≤ sizeLine ∧ s.heap.get? a = some { cls := .type "list", data := .seq its.toArray n } := by
 rw [hK] at h
 rcases h with h | ⟨its, n, h1, h2, h3⟩
 ·obtain ⟨z, its, n, r, e⟩ := h.ok I.hok
  exact ⟨its, n, r, r.length, z, e⟩
 ·refine ⟨its.toList, n, h3, h3.length, ?_, by simpa using I.kIn a _ h1⟩
  rw [h3.length, Array.length_toList]
  exact h2
theorem op_catR (hK : W.K = X.K) : OpR X (binaryOp .Add) (fun x y H Q => ∃ l b xs zs, x = .ref l ∧ y = .ref b ∧ LsR W.K H l xs ∧ LsR W.K H b zs ∧ xs.length + zs.length ≤ sizeLine ∧ ∀ p, H p = none → Q (.ref p) (upd H p (.lst (xs ++ zs)))) := by
 intro pins s σ H x y v u Q I rx ry h
 obtain ⟨l, b, xs, zs, rfl, rfl, hH, hB, hz, q⟩ := h
 cases rx
 cases ry
 obtain ⟨its, n, r, hl, _, e⟩ := lstR hK I hH
 obtain ⟨its2, n2, r2, hl2, _, e2⟩ := lstR hK I hB
 refine PySem.P.add_list e e2 ?_ (by rw [List.size_toArray, List.size_toArray]; omega)
 have ea : its.toArray ++ its2.toArray = (its ++ its2).toArray := by simp
 rw [ea]
 exact ⟨.ref _, _, I.lnew (t' := s.toks) (r.append r2) (by rw [List.length_append]; omega), rfl, q _ I.fresh⟩
theorem op_repR (hK : W.K = X.K) : OpR X (binaryOp .Mult) (fun x y H Q => ∃ l k xs, x = .ref l ∧ y = .int k ∧ LsR W.K H l xs ∧ 0 ≤ k ∧ k < 1000 ∧ xs.length < 1000 ∧ ∀ p, H p = none → Q (.ref p) (upd H p (.lst (List.replicate k.toNat xs).flatten))) := by
 intro pins s σ H x y v u Q I rx ry h
 obtain ⟨l, k, xs, rfl, rfl, hH, h1, h2, h3, q⟩ := h
 cases rx
 obtain ⟨t, rfl⟩ := ry
 obtain ⟨its, n, r, hl, _, e⟩ := lstR hK I hH
 have hz : xs.length * k.toNat ≤ sizeLine := by
  have : xs.length * k.toNat ≤ 1000 * 1000 := Nat.mul_le_mul (by omega) (by omega)
  have hs1 : (1000000 : Nat) ≤ sizeLine := by decide
  omega
 have hlen : its.toArray.size * k.toNat ≤ sizeLine := by rw [List.size_toArray, ← hl]; exact hz
 have hcap : ¬ its.toArray.size * k.toNat > (2 ^ 63 - 1) / 8 := by
  have : (sizeLine : Nat) ≤ (2 ^ 63 - 1) / 8 := by decide
  omega
 have hfit : ¬ (!Builtin.List.listFitsIndex k) = true := by
  rw [fitsIndex_both (by omega) (by omega)]
  exact Bool.false_ne_true
 have hlong : ¬ Builtin.List.listTooLong (its.toArray.size * k.toNat) = true := by
  rw [notLongL hlen]
  exact Bool.false_ne_true
 have hnew : List.foldl (fun x1 x2 => x1 ++ x2) #[] (List.replicate (if its.toArray.isEmpty = true then 0 else k.toNat) its.toArray) = (List.replicate k.toNat its).flatten.toArray := by
  have f0 : ∀ m : Nat, List.foldl (fun x1 x2 => x1 ++ x2) #[] (List.replicate m its.toArray) = (List.replicate m its).flatten.toArray := fun m => by
   have := foldl_rep its m []
   rw [List.nil_append] at this
   exact this
  rw [f0]
  cases its with
  | nil => simp
  | cons a r' => rw [if_neg (by simp)]
 refine wpAny_binaryOp_repeat_ref (T := "list") (U := "int") (by decide) ⟨_, e, rfl⟩ (fun s' => typeIs_int s' k t) noFill_list_mul PySem.F.fills_int_mul PySem.F.slot_int_rmul repeat_list PySem.F.slot_int_index.lookup
  (call_meets PySem.F.slot_int_rmul (typeIs_int s k t) PySem.F.entry_int_rmul (PySem.F.args_int_rmul_2 _ _) (int___rmul___int_list k t l its.toArray n)
   ⟨e, rfl, ⟨_, e, rfl⟩, call_meets PySem.F.slot_list_mul ⟨_, e, rfl⟩ PySem.F.entry_list_mul (PySem.F.args_list_mul_2 _ _) (AutoListH.list___mul___list_int_3 l its.toArray n k t hfit hcap hlong) ⟨e, ?_⟩⟩)
 rw [hnew]
 exact ⟨.ref _, _, I.lnew (t' := s.toks) (r.rep k.toNat) (by rw [len_rep, Nat.mul_comm]; exact hz), rfl, q _ I.fresh⟩
theorem RepL.rep {G : Hp} {ps : List PV} {vs : List V} (h : RepL W G ps vs) : ∀ k : Nat, RepL W G (List.replicate k ps).flatten (List.replicate k vs).flatten
 | 0 => .nil
 | k + 1 => by
  rw [List.replicate_succ, List.replicate_succ, List.flatten_cons, List.flatten_cons]
  exact h.append (h.rep k)
theorem op_catS : OpR X (binaryOp .Add) (fun x y H Q => ∃ a b xs ys, x = .ref a ∧ y = .ref b ∧ SqT X.K H a xs ∧ SqT X.K H b ys ∧ xs.length + ys.length ≤ sizeLine ∧ (xs = [] → Q (.ref b) H) ∧ (ys = [] → Q (.ref a) H) ∧ ∀ p, H p = none → Q (.ref p) (upd H p (.tup (xs ++ ys)))) := by
 intro pins s σ H x y v u Q I rx ry h
 obtain ⟨a, b, xs, ys, rfl, rfl, ha, hb, hz, q1, q2, q3⟩ := h
 cases rx
 cases ry
 by_cases hx : xs = []
 ·subst hx
  obtain ⟨its, r1, p1, _⟩ := I.tuple ha
  obtain ⟨its2, r2, p2, _⟩ := I.tuple hb
  have e1 : its = [] := r1.nil_iff.mpr rfl
  subst e1
  obtain ⟨⟨cls, dd, data, sl⟩, ho, hc, n, hd⟩ := id p1
  obtain ⟨⟨cls2, dd2, data2, sl2⟩, ho2, hc2, n2, hd2⟩ := id p2
  simp only at hc hd hc2 hd2
  subst hc hd hc2 hd2
  exact PySem.concat_meets ⟨_, ho, rfl⟩ ⟨_, ho2, rfl⟩ PySem.noFill_tuple_add PySem.seq_tuple_add PySem.F.slot_tuple_add PySem.F.entry_tuple_add (PySem.F.args_tuple_add_2 _ _)
   (PyProof.Rows.tuple_addW0 a b ([] : List Value).toArray its2.toArray n n2 dd dd2 sl sl2 (by simp)) ⟨ho, ho2, ⟨.ref b, H, I, rfl, q1 rfl⟩⟩
 ·refine op_catT pins s σ H (.ref a) (.ref b) (.ref a) (.ref b) Q I rfl rfl ⟨a, b, xs, ys, rfl, rfl, ha, hb, hx, hz, fun e => q2 e, fun _ p hp => q3 p hp⟩
def opB : Bop → Operator
 | .add => .Add | .sub => .Sub | .mul => .Mult | .mod => .Mod | .fdiv => .FloorDiv
def Bin (W : Wd) (f : PV → PV → Res PV) : R2 := fun x y H Q => ∃ H0 G p q r, Same G H ∧ Top W H0 G H p x ∧ Top W H0 G H q y ∧ f p q = .ok r ∧ Wants W G H r Q
theorem op_bin (hK : W.K = X.K) (o : Bop) : OpR X (binaryOp (opB o)) (Bin W (binOp o)) := by
 intro pins s σ H x y v u Q I rx ry h
 obtain ⟨H0, G, p, q, r, sg, t1, t2, e, wq⟩ := h
 unfold binOp at e
 split at e
 ·cases e
  exact op_add pins s σ H x y v u Q I rx ry ⟨_, _, t1.int, t2.int, wq.at sg .i⟩
 ·split at e
  ·rename_i hl
   cases e
   exact op_add_str pins s σ H x y v u Q I rx ry ⟨_, _, t1.str, t2.str, lim_le hl, wq.at sg .s⟩
  ·cases e
 ·split at e
  ·rename_i hl
   cases e
   obtain ⟨a, vs, rfl, h1, l1⟩ := t1.lst sg
   obtain ⟨b, us, rfl, h2, l2⟩ := t2.lst sg
   exact op_catR hK pins s σ H _ _ v u Q I rx ry ⟨a, b, vs, us, rfl, rfl, h1, h2, by rw [l1.length, l2.length]; exact lim_le hl, fun p hp => wq.lst sg (l1.append l2) hp⟩
  ·cases e
 ·split at e
  ·rename_i hl
   cases e
   have t1' := t1
   have t2' := t2
   obtain ⟨a, vs, rfl, h1, l1⟩ := t1.tup sg
   obtain ⟨b, us, rfl, h2, l2⟩ := t2.tup sg
   rw [hK] at h1 h2
   have m1 := l1.length
   have m2 := l2.length
   refine op_catS pins s σ H _ _ v u Q I rx ry ⟨a, b, vs, us, rfl, rfl, h1, h2, by rw [m1, m2]; exact lim_le hl, fun z => ?_, fun z => ?_, fun p hp => wq.tup sg (l1.append l2) hp⟩
   ·subst z
    rename_i xs ys
    have : xs = [] := List.length_eq_zero_iff.mp m1.symm
    subst this
    exact wq.at sg (t2'.elim id fun z => z.elim)
   ·subst z
    rename_i xs ys
    have : ys = [] := List.length_eq_zero_iff.mp m2.symm
    subst this
    rw [List.append_nil] at wq
    exact wq.at sg (t1'.elim id fun z => z.elim)
  ·cases e
 ·cases e
  exact op_sub pins s σ H x y v u Q I rx ry ⟨_, _, t1.int, t2.int, wq.at sg .i⟩
 ·split at e
  ·rename_i hc
   cases e
   refine op_mul pins s σ H x y v u Q I rx ry ⟨_, _, t1.int, t2.int, ?_, wq.at sg .i⟩
   rw [Bool.or_eq_true] at hc
   unfold small64 at hc
   simp only [Bool.and_eq_true, decide_eq_true_eq] at hc
   exact hc
  ·cases e
 ·split at e
  ·rename_i hc
   cases e
   obtain ⟨a, vs, rfl, h1, l1⟩ := t1.lst sg
   exact op_repR hK pins s σ H _ _ v u Q I rx ry ⟨a, _, vs, rfl, t2.int, h1, hc.1, hc.2.1, by rw [l1.length]; exact hc.2.2, fun p hp => wq.lst sg (l1.rep _) hp⟩
  ·cases e
 ·split at e
  ·rename_i hc
   cases e
   obtain ⟨a, vs, rfl, h1, l1⟩ := t1.tup sg
   rw [hK] at h1
   have m1 := l1.length
   exact op_mulT pins s σ H _ _ v u Q I rx ry ⟨a, _, vs, rfl, t2.int, h1, hc.1, hc.2.1, by rw [m1]; exact hc.2.2.1, by rw [m1]; exact hc.2.2.2, fun p hp => wq.tup sg (l1.rep _) hp⟩
  ·cases e
 ·split at e
  ·rename_i hc
   cases e
   exact op_mul_str pins s σ H x y v u Q I rx ry ⟨_, _, t1.str, t2.int, hc.1, hc.2.1, hc.2.2.1, hc.2.2.2, wq.at sg .s⟩
  ·cases e
 ·split at e
  ·rename_i hc
   cases e
   exact op_mod pins s σ H x y v u Q I rx ry ⟨_, _, t1.int, t2.int, hc, wq.at sg .i⟩
  ·cases e
 ·split at e
  ·rename_i hc
   cases e
   exact op_fdiv pins s σ H x y v u Q I rx ry ⟨_, _, t1.int, t2.int, hc, wq.at sg .i⟩
  ·cases e
 ·cases e
theorem un_negP : UnR X (unaryOp .USub) (fun x H Q => ∃ (H0 G : Hp) (i : Int), Same G H ∧ Top W H0 G H (.int i) x ∧ Wants W G H (.int (-i)) Q) := by
 intro pins s σ H x v Q I rx h
 obtain ⟨H0, G, i, sg, t, wq⟩ := h
 exact un_neg pins s σ H x v Q I rx ⟨i, t.int, wq.at sg .i⟩
def opC : Cop → CmpOp
 | .eq => .Eq | .ne => .NotEq | .lt => .Lt | .le => .LtE | .gt => .Gt | .ge => .GtE | .is => .Is | .isn => .IsNot | .in_ => .In | .nin => .NotIn
theorem fin_b {pins : List (Addr × Obj)} {σ : St} {H G : Hp} {s : Shared} {Q : VK} {k : Bool} (I : Inv X pins σ H s) (sg : Same G H) (wq : Wants W G H (.bl k) Q) : EP X pins σ Q (.bool k) s := ⟨.bl k, H, I, rfl, wq.at sg .b⟩
theorem op_eqP (hK : W.K = X.K) (hu : X.A.units + 64 < cLine) : OpR X (compareOp .Eq) (Bin W opEq) := by
 intro pins s σ H x y v u Q I rx ry h
 obtain ⟨H0, G, p, q, r, sg, t1, t2, e, wq⟩ := h
 unfold opEq at e
 split at e
 ·rename_i hc
  rw [Bool.and_eq_true] at hc
  cases e
  exact rc_at I hK sg 8 (by omega) hc.1 hc.2 t1 t2 rx ry _ _ _ _ (fin_b I sg wq)
 ·cases e
theorem op_neP (hK : W.K = X.K) (hu : X.A.units + 64 < cLine) : OpR X (compareOp .NotEq) (Bin W opNe) := by
 intro pins s σ H x y v u Q I rx ry h
 obtain ⟨H0, G, p, q, r, sg, t1, t2, e, wq⟩ := h
 unfold opNe at e
 split at e
 ·rename_i hc
  rw [Bool.and_eq_true] at hc
  cases e
  exact rcne_at I hK sg 8 (by omega) hc.1 hc.2 t1 t2 rx ry _ _ _ _ (fin_b I sg wq)
 ·cases e
theorem intsOf_rep {G : Hp} : ∀ {xs : List PV} {vs : List V} {ns : List Int}, RepL W G xs vs → intsOf xs = some ns → vs = ns.map V.int
 | [], vs, ns, h, e => by simp only [RepL] at h; subst h; cases e; rfl
 | .int i :: r, vs, ns, h, e => by
  obtain ⟨v, t, rfl, h1, h2⟩ := h.uncons
  simp only [Rep] at h1
  subst h1
  unfold intsOf at e
  obtain ⟨m, hm, rfl⟩ := Option.map_eq_some_iff.mp e
  rw [intsOf_rep h2 hm]
  rfl
 | .non :: _, _, _, _, e => by cases e
 | .bl _ :: _, _, _, _, e => by cases e
 | .str _ :: _, _, _, _, e => by cases e
 | .tup _ :: _, _, _, _, e => by cases e
 | .lst _ :: _, _, _, _, e => by cases e
 | .exc _ :: _, _, _, _, e => by cases e
 | .dct _ _ :: _, _, _, _, e => by cases e
theorem boolsOf_rep {G : Hp} : ∀ {xs : List PV} {vs : List V} {ns : List Bool}, RepL W G xs vs → boolsOf xs = some ns → vs = ns.map V.bl
 | [], vs, ns, h, e => by simp only [RepL] at h; subst h; cases e; rfl
 | .bl i :: r, vs, ns, h, e => by
  obtain ⟨v, t, rfl, h1, h2⟩ := h.uncons
  simp only [Rep] at h1
  subst h1
  unfold boolsOf at e
  obtain ⟨m, hm, rfl⟩ := Option.map_eq_some_iff.mp e
  rw [boolsOf_rep h2 hm]
  rfl
 | .non :: _, _, _, _, e => by cases e
 | .int _ :: _, _, _, _, e => by cases e
 | .str _ :: _, _, _, _, e => by cases e
 | .tup _ :: _, _, _, _, e => by cases e
 | .lst _ :: _, _, _, _, e => by cases e
 | .exc _ :: _, _, _, _, e => by cases e
 | .dct _ _ :: _, _, _, _, e => by cases e
theorem strsOf_rep {G : Hp} : ∀ {xs : List PV} {vs : List V} {ns : List Str}, RepL W G xs vs → strsOf xs = some ns → vs = ns.map V.str
 | [], vs, ns, h, e => by simp only [RepL] at h; subst h; cases e; rfl
 | .str i :: r, vs, ns, h, e => by
  obtain ⟨v, t, rfl, h1, h2⟩ := h.uncons
  simp only [Rep] at h1
  subst h1
  unfold strsOf at e
  obtain ⟨m, hm, rfl⟩ := Option.map_eq_some_iff.mp e
  rw [strsOf_rep h2 hm]
  rfl
 | .non :: _, _, _, _, e => by cases e
 | .int _ :: _, _, _, _, e => by cases e
 | .bl _ :: _, _, _, _, e => by cases e
 | .tup _ :: _, _, _, _, e => by cases e
 | .lst _ :: _, _, _, _, e => by cases e
 | .exc _ :: _, _, _, _, e => by cases e
 | .dct _ _ :: _, _, _, _, e => by cases e
theorem Res.of_ok {α : Type} {o : Option α} {a : α} (h : Res.of o = .ok a) : o = some a := by
 cases o with
 | none => cases h
 | some b => cases h; rfl
theorem op_ltP (hK : W.K = X.K) (hu : X.A.units + 64 < cLine) : OpR X (compareOp .Lt) (Bin W opLt) := by
 intro pins s σ H x y v u Q I rx ry h
 obtain ⟨H0, G, p, q, r, sg, t1, t2, e, wq⟩ := h
 unfold opLt at e
 split at e
 ·cases e
  exact op_lt pins s σ H x y v u Q I rx ry ⟨_, _, t1.int, t2.int, wq.at sg .b⟩
 ·obtain ⟨ns, h1, e⟩ := Res.bind_ok e
  obtain ⟨ms, h2, e⟩ := Res.bind_ok e
  cases e
  obtain ⟨a, vs, rfl, q1, l1⟩ := t1.tup sg
  obtain ⟨b, us, rfl, q2, l2⟩ := t2.tup sg
  rw [hK] at q1 q2
  have e1 := intsOf_rep l1 (Res.of_ok h1)
  have e2 := intsOf_rep l2 (Res.of_ok h2)
  subst e1 e2
  exact op_ltT (by omega) pins s σ H _ _ v u Q I rx ry ⟨a, b, ns, ms, rfl, rfl, q1, q2, wq.at sg .b⟩
 ·cases e
theorem op_leP : OpR X (compareOp .LtE) (Bin W opLe) := by
 intro pins s σ H x y v u Q I rx ry h
 obtain ⟨H0, G, p, q, r, sg, t1, t2, e, wq⟩ := h
 unfold opLe at e
 split at e
 ·cases e
  exact op_le pins s σ H x y v u Q I rx ry ⟨_, _, t1.int, t2.int, wq.at sg .b⟩
 ·cases e
theorem op_gtP : OpR X (compareOp .Gt) (Bin W opGt) := by
 intro pins s σ H x y v u Q I rx ry h
 obtain ⟨H0, G, p, q, r, sg, t1, t2, e, wq⟩ := h
 unfold opGt at e
 split at e
 ·cases e
  exact op_gt pins s σ H x y v u Q I rx ry ⟨_, _, t1.int, t2.int, wq.at sg .b⟩
 ·cases e
theorem op_geP : OpR X (compareOp .GtE) (Bin W opGe) := by
 intro pins s σ H x y v u Q I rx ry h
 obtain ⟨H0, G, p, q, r, sg, t1, t2, e, wq⟩ := h
 unfold opGe at e
 split at e
 ·cases e
  exact op_ge pins s σ H x y v u Q I rx ry ⟨_, _, t1.int, t2.int, wq.at sg .b⟩
 ·cases e
theorem isNon_top {H0 G H : Hp} {p : PV} {x : V} (sg : Same G H) (t : Top W H0 G H p x) : decide (x = .non) = isNon p := by
 cases p with
 | non => cases t.non; rfl
 | bl b => cases t.bl; rfl
 | int b => cases t.int; rfl
 | str b => cases t.str; rfl
 | tup b => obtain ⟨a, vs, rfl, _⟩ := t.tup sg; rfl
 | lst b => obtain ⟨a, vs, rfl, _⟩ := t.lst sg; rfl
 | dct b c => obtain ⟨a, vs, rfl, _⟩ := t.dct sg; rfl
 | exc c =>
  rcases t with t | t
  ·simp only [Rep] at t
   obtain ⟨a, C, rfl, _⟩ := t
   rfl
  ·exact t.elim
theorem op_isP : OpR X (compareOp .Is) (Bin W opIs) := by
 intro pins s σ H x y v u Q I rx ry h
 obtain ⟨H0, G, p, q, r, sg, t1, t2, e, wq⟩ := h
 unfold opIs at e
 split at e
 ·cases e
  refine op_isN pins s σ H x y v u Q I rx ry ⟨t2.non, ?_⟩
  rw [isNon_top sg t1]
  exact wq.at sg .b
 ·cases e
  exact op_is_bl pins s σ H x y v u Q I rx ry ⟨_, _, t1.bl, t2.bl, wq.at sg .b⟩
 ·cases e
theorem op_isnP : OpR X (compareOp .IsNot) (Bin W opIsn) := by
 intro pins s σ H x y v u Q I rx ry h
 obtain ⟨H0, G, p, q, r, sg, t1, t2, e, wq⟩ := h
 unfold opIsn at e
 split at e
 ·cases e
  refine op_notN pins s σ H x y v u Q I rx ry ⟨t2.non, ?_⟩
  rw [isNon_top sg t1]
  exact wq.at sg .b
 ·cases e
  exact op_isnot_bl pins s σ H x y v u Q I rx ry ⟨_, _, t1.bl, t2.bl, wq.at sg .b⟩
 ·cases e
end
end Ci
set_option maxHeartbeats 4000000
namespace Ci
open PySem L2
theorem list_ext2 {α : Type} : ∀ {xs ys : List α}, xs.length = ys.length → (∀ (j : Nat) x y, xs[j]? = some x → ys[j]? = some y → x = y) → xs = ys
 | [], [], _, _ => rfl
 | x :: xs, y :: ys, h, k => by rw [k 0 x y rfl rfl, list_ext2 (xs := xs) (ys := ys) (by simpa using h) fun j a b ha hb => k (j + 1) a b (by simpa using ha) (by simpa using hb)]
 | [], _ :: _, h, _ => by simp at h
 | _ :: _, [], h, _ => by simp at h
section
variable {X : Cx} {W : Wd} {H0 G H : Hp}
theorem rep_inj {pins : List (Addr × Obj)} {σ : St} {s : Shared} (I : Inv X pins σ H s) (hK : W.K = X.K) (sg : Same G H) : ∀ (n : Nat) {p q : PV} {v : V}, plain n p = true → plain n q = true → Top W H0 G H p v → Top W H0 G H q v → p = q := by
 intro n
 induction n with
 | zero =>
  intro p q v hp hq h1 h2
  cases p with
  | non =>
   cases h1.non
   cases q with
   | non => cases h2.non; rfl
   | bl y => cases h2.bl
   | int y => cases h2.int
   | str y => cases h2.str
   | exc c => exact absurd hq Bool.false_ne_true
   | dct a b => exact absurd hq Bool.false_ne_true
   | tup xs => exact absurd hq Bool.false_ne_true
   | lst xs => exact absurd hq Bool.false_ne_true
  | bl x =>
   cases h1.bl
   cases q with
   | non => cases h2.non
   | bl y => cases h2.bl; rfl
   | int y => cases h2.int
   | str y => cases h2.str
   | exc c => exact absurd hq Bool.false_ne_true
   | dct a b => exact absurd hq Bool.false_ne_true
   | tup xs => exact absurd hq Bool.false_ne_true
   | lst xs => exact absurd hq Bool.false_ne_true
  | int x =>
   cases h1.int
   cases q with
   | non => cases h2.non
   | bl y => cases h2.bl
   | int y => cases h2.int; rfl
   | str y => cases h2.str
   | exc c => exact absurd hq Bool.false_ne_true
   | dct a b => exact absurd hq Bool.false_ne_true
   | tup xs => exact absurd hq Bool.false_ne_true
   | lst xs => exact absurd hq Bool.false_ne_true
  | str x =>
   cases h1.str
   cases q with
   | non => cases h2.non
   | bl y => cases h2.bl
   | int y => cases h2.int
   | str y => cases h2.str; rfl
   | exc c => exact absurd hq Bool.false_ne_true
   | dct a b => exact absurd hq Bool.false_ne_true
   | tup xs => exact absurd hq Bool.false_ne_true
   | lst xs => exact absurd hq Bool.false_ne_true
  | exc c => exact absurd hp Bool.false_ne_true
  | dct a b => exact absurd hp Bool.false_ne_true
  | tup xs => exact absurd hp Bool.false_ne_true
  | lst xs => exact absurd hp Bool.false_ne_true
 | succ n ih =>
  intro p q v hp hq h1 h2
  have el : ∀ {xs ys : List PV} {vs : List V}, xs.all (plain n) = true → ys.all (plain n) = true → RepL W G xs vs → RepL W G ys vs → xs = ys := fun {xs ys vs} a1 a2 l1 l2 =>
   list_ext2 (by rw [← l1.length, l2.length]) fun j x y ex ey => by
    obtain ⟨u, eu, ku⟩ := l1.getP ex
    obtain ⟨y', ey', ky⟩ := l2.get eu
    rw [ey] at ey'
    cases ey'
    exact ih (List.all_eq_true.mp a1 _ (List.mem_of_getElem? ex)) (List.all_eq_true.mp a2 _ (List.mem_of_getElem? ey)) (.inl ku) (.inl ky)
  cases p with
  | exc c => exact absurd hp Bool.false_ne_true
  | dct a b => exact absurd hp Bool.false_ne_true
  | tup xs =>
   obtain ⟨a, vs, rfl, sq, l⟩ := h1.tup sg
   rw [hK] at sq
   cases q with
   | exc c => exact absurd hq Bool.false_ne_true
   | dct a b => exact absurd hq Bool.false_ne_true
   | non => cases h2.non
   | bl b => cases h2.bl
   | int b => cases h2.int
   | str b => cases h2.str
   | lst ys =>
    obtain ⟨b, us, e, sq20, l2⟩ := h2.lst sg
    have sq2 := sqL hK sq20
    cases e
    exact (not_both I sq sq2).elim
   | tup ys =>
    obtain ⟨b, us, e, sq2, l2⟩ := h2.tup sg
    rw [hK] at sq2
    cases e
    cases I.tuple_inj sq sq2
    rw [el hp hq l l2]
  | lst xs =>
   obtain ⟨a, vs, rfl, sq0, l⟩ := h1.lst sg
   have sq := sqL hK sq0
   cases q with
   | exc c => exact absurd hq Bool.false_ne_true
   | dct a b => exact absurd hq Bool.false_ne_true
   | non => cases h2.non
   | bl b => cases h2.bl
   | int b => cases h2.int
   | str b => cases h2.str
   | tup ys =>
    obtain ⟨b, us, e, sq2, l2⟩ := h2.tup sg
    rw [hK] at sq2
    cases e
    exact (not_both I sq2 sq).elim
   | lst ys =>
    obtain ⟨b, us, e, sq20, l2⟩ := h2.lst sg
    have sq2 := sqL hK sq20
    cases e
    cases I.list_inj sq sq2
    rw [el hp hq l l2]
  | non =>
   cases h1.non
   cases q with
   | non => cases h2.non; rfl
   | bl y => cases h2.bl
   | int y => cases h2.int
   | str y => cases h2.str
   | tup ys => obtain ⟨b, us, e, _⟩ := h2.tup sg; cases e
   | lst ys => obtain ⟨b, us, e, _⟩ := h2.lst sg; cases e
   | exc c => exact absurd hq Bool.false_ne_true
   | dct a b => exact absurd hq Bool.false_ne_true
  | bl x =>
   cases h1.bl
   cases q with
   | non => cases h2.non
   | bl y => cases h2.bl; rfl
   | int y => cases h2.int
   | str y => cases h2.str
   | tup ys => obtain ⟨b, us, e, _⟩ := h2.tup sg; cases e
   | lst ys => obtain ⟨b, us, e, _⟩ := h2.lst sg; cases e
   | exc c => exact absurd hq Bool.false_ne_true
   | dct a b => exact absurd hq Bool.false_ne_true
  | int x =>
   cases h1.int
   cases q with
   | non => cases h2.non
   | bl y => cases h2.bl
   | int y => cases h2.int; rfl
   | str y => cases h2.str
   | tup ys => obtain ⟨b, us, e, _⟩ := h2.tup sg; cases e
   | lst ys => obtain ⟨b, us, e, _⟩ := h2.lst sg; cases e
   | exc c => exact absurd hq Bool.false_ne_true
   | dct a b => exact absurd hq Bool.false_ne_true
  | str x =>
   cases h1.str
   cases q with
   | non => cases h2.non
   | bl y => cases h2.bl
   | int y => cases h2.int
   | str y => cases h2.str; rfl
   | tup ys => obtain ⟨b, us, e, _⟩ := h2.tup sg; cases e
   | lst ys => obtain ⟨b, us, e, _⟩ := h2.lst sg; cases e
   | exc c => exact absurd hq Bool.false_ne_true
   | dct a b => exact absurd hq Bool.false_ne_true
theorem item_eq {pins : List (Addr × Obj)} {σ : St} {s : Shared} (I : Inv X pins σ H s) (hK : W.K = X.K) (sg : Same G H) {A : Around} {a : PV} {x : V} {x' : Value} {ys : List PV} {us : List V} {its : List Value} (hu : A.units + 32 < cLine) (ha : pln a = true) (hy : ys.all pln = true) (ta : Top W H0 G H a x) (rx : RelV x x') (l : RepL W G ys us) (r : Vals us its) :
 ∃ e : Value → Bool, (∀ y ∈ its, SeqAt.EqAt A s y x' (e y)) ∧ ∀ (j : Nat) (y : Value) (p : PV), its[j]? = some y → ys[j]? = some p → e y = eqv p a := by
 classical
 have key : ∀ (j : Nat) (y : Value), its[j]? = some y → ∃ p u, ys[j]? = some p ∧ us[j]? = some u ∧ Rep W G p u ∧ RelV u y ∧ pln p = true := fun j y e => by
  have hj := (List.getElem?_eq_some_iff.mp e).1
  have hl := r.length
  obtain ⟨u, hu1, hu2⟩ := r.get (i := j) (x := us[j]'(by omega)) (List.getElem?_eq_getElem (by omega))
  rw [e] at hu1
  cases hu1
  obtain ⟨p, hp, kp⟩ := l.get (List.getElem?_eq_getElem (show j < us.length by omega))
  exact ⟨p, _, hp, List.getElem?_eq_getElem (by omega), kp, hu2, List.all_eq_true.mp hy p (List.mem_of_getElem? hp)⟩
 refine ⟨fun y => if h : ∃ (j : Nat) (p : PV), its[j]? = some y ∧ ys[j]? = some p then eqv h.choose_spec.choose a else false, fun y hy' => ?_, fun j y p e1 e2 => ?_⟩
 ·obtain ⟨j, hj, e⟩ := List.getElem_of_mem hy'
  have ej : its[j]? = some y := by rw [List.getElem?_eq_getElem hj, e]
  obtain ⟨p, u, h1, h2, h3, h4, h5⟩ := key j y ej
  have hex : ∃ (j : Nat) (p : PV), its[j]? = some y ∧ ys[j]? = some p := ⟨j, p, ej, h1⟩
  dsimp only
  rw [dif_pos hex]
  have sp := hex.choose_spec.choose_spec
  obtain ⟨p2, u2, g1, g2, g3, g4, g5⟩ := key _ y sp.1
  have e3 : hex.choose_spec.choose = p2 := Option.some.inj (sp.2.symm.trans g1)
  rw [e3]
  exact eq_at (H0 := H0) I hK sg 9 (by omega) g5 ha (.inl g3) ta g4 rx
 ·have hex : ∃ (j : Nat) (p : PV), its[j]? = some y ∧ ys[j]? = some p := ⟨j, p, e1, e2⟩
  dsimp only
  rw [dif_pos hex]
  obtain ⟨p1, u1, f1, f2, f3, f4, f5⟩ := key j y e1
  rw [e2] at f1
  cases f1
  have sp := hex.choose_spec.choose_spec
  obtain ⟨p2, u2, g1, g2, g3, g4, g5⟩ := key _ y sp.1
  have e3 : hex.choose_spec.choose = p2 := Option.some.inj (sp.2.symm.trans g1)
  have e4 : u1 = u2 := f4.inj g4
  subst e4
  rw [e3, rep_inj I hK sg DP g5 f5 (.inl g3 : Top W H0 G H p2 u1) (.inl f3)]
theorem any_of {its : List Value} {ys : List PV} {e : Value → Bool} {f : PV → Bool} : its.length = ys.length → (∀ (j : Nat) (y : Value) (p : PV), its[j]? = some y → ys[j]? = some p → e y = f p) → its.any e = ys.any f := by
 intro hl h
 have : its.map e = ys.map f := list_ext2 (by simpa using hl) fun j x y hx hy => by
  rw [List.getElem?_map] at hx hy
  obtain ⟨a, ha, rfl⟩ := Option.map_eq_some_iff.mp hx
  obtain ⟨b, hb, rfl⟩ := Option.map_eq_some_iff.mp hy
  exact h j a b ha hb
 calc its.any e = (its.map e).any id := by rw [List.any_map]; rfl
  _ = (ys.map f).any id := by rw [this]
  _ = ys.any f := by rw [List.any_map]; rfl
theorem count_of {its : List Value} {ys : List PV} {e : Value → Bool} {f : PV → Bool} : its.length = ys.length → (∀ (j : Nat) (y : Value) (p : PV), its[j]? = some y → ys[j]? = some p → e y = f p) → its.countP e = ys.countP f := by
 intro hl h
 have : its.map e = ys.map f := list_ext2 (by simpa using hl) fun j x y hx hy => by
  rw [List.getElem?_map] at hx hy
  obtain ⟨a, ha, rfl⟩ := Option.map_eq_some_iff.mp hx
  obtain ⟨b, hb, rfl⟩ := Option.map_eq_some_iff.mp hy
  exact h j a b ha hb
 calc its.countP e = (its.map e).countP id := by rw [List.countP_map]; rfl
  _ = (ys.map f).countP id := by rw [this]
  _ = ys.countP f := by rw [List.countP_map]; rfl
theorem op_inP (hK : W.K = X.K) (hu : X.A.units + 64 < cLine) : OpR X (compareOp .In) (Bin W opIn) := by
 intro pins s σ H x y v u Q I rx ry h
 obtain ⟨H0, G, p, q, r, sg, t1, t2, e, wq⟩ := h
 have hu1 : X.A.in1.units + 32 < cLine := by show X.A.units + 1 + 32 < _; omega
 unfold opIn at e
 split at e
 ·split at e
  ·rename_i hc
   rw [Bool.and_eq_true] at hc
   cases e
   obtain ⟨b, us, rfl, q2, l2⟩ := t2.lst sg
   cases ry
   obtain ⟨its, rv, z, _⟩ := I.list (sqL hK q2)
   obtain ⟨e, he, hv⟩ := item_eq I hK sg hu1 hc.1 hc.2 t1 rx l2 rv
   refine SeqAt.in_listAt e z.isList (fun y hy => he y (by simpa using hy)) ?_
   have := any_of (by rw [← rv.length, l2.length]) hv
   rw [List.any_toArray, this]
   exact fin_b I sg wq
  ·cases e
 ·split at e
  ·rename_i hc
   rw [Bool.and_eq_true] at hc
   cases e
   obtain ⟨b, us, rfl, q2, l2⟩ := t2.tup sg
   rw [hK] at q2
   cases ry
   obtain ⟨its, rv, z, _⟩ := I.tuple q2
   obtain ⟨e, he, hv⟩ := item_eq I hK sg hu1 hc.1 hc.2 t1 rx l2 rv
   refine SeqAt.in_tupleAt e (show s.heap.IsTuple b its.toArray from z) (fun y hy => he y (by simpa using hy)) ?_
   have := any_of (by rw [← rv.length, l2.length]) hv
   rw [List.any_toArray, this]
   exact fin_b I sg wq
  ·cases e
 ·cases e
  exact op_in_str pins s σ H x y v u Q I rx ry ⟨_, _, t1.str, t2.str, wq.at sg .b⟩
 ·cases e
theorem op_ninP (hK : W.K = X.K) (hu : X.A.units + 64 < cLine) : OpR X (compareOp .NotIn) (Bin W opNin) := by
 intro pins s σ H x y v u Q I rx ry h
 obtain ⟨H0, G, p, q, r, sg, t1, t2, e, wq⟩ := h
 have hu1 : X.A.in1.units + 32 < cLine := by show X.A.units + 1 + 32 < _; omega
 unfold opNin at e
 split at e
 ·split at e
  ·rename_i hc
   rw [Bool.and_eq_true] at hc
   cases e
   obtain ⟨b, us, rfl, q2, l2⟩ := t2.lst sg
   cases ry
   obtain ⟨its, rv, z, _⟩ := I.list (sqL hK q2)
   obtain ⟨e, he, hv⟩ := item_eq I hK sg hu1 hc.1 hc.2 t1 rx l2 rv
   refine SeqAt.notIn_listAt e z.isList (fun y hy => he y (by simpa using hy)) ?_
   have := any_of (by rw [← rv.length, l2.length]) hv
   rw [List.any_toArray, this]
   exact fin_b I sg wq
  ·cases e
 ·split at e
  ·rename_i hc
   rw [Bool.and_eq_true] at hc
   cases e
   obtain ⟨b, us, rfl, q2, l2⟩ := t2.tup sg
   rw [hK] at q2
   cases ry
   obtain ⟨its, rv, z, _⟩ := I.tuple q2
   obtain ⟨e, he, hv⟩ := item_eq I hK sg hu1 hc.1 hc.2 t1 rx l2 rv
   refine SeqAt.notIn_tupleAt e (show s.heap.IsTuple b its.toArray from z) (fun y hy => he y (by simpa using hy)) ?_
   have := any_of (by rw [← rv.length, l2.length]) hv
   rw [List.any_toArray, this]
   exact fin_b I sg wq
  ·cases e
 ·cases e
  exact op_notin_str pins s σ H x y v u Q I rx ry ⟨_, _, t1.str, t2.str, wq.at sg .b⟩
 ·cases e
theorem op_cmpP (hK : W.K = X.K) (hu : X.A.units + 64 < cLine) : ∀ o : Cop, OpR X (compareOp (opC o)) (Bin W (cmpOp o))
 | .eq => op_eqP hK hu | .ne => op_neP hK hu | .lt => op_ltP hK hu | .le => op_leP | .gt => op_gtP | .ge => op_geP | .is => op_isP | .isn => op_isnP | .in_ => op_inP hK hu | .nin => op_ninP hK hu
theorem atI_rep {ps : List PV} {vs : List V} {i : Int} {p : PV} (l : RepL W G ps vs) (h : atI ps i = some p) : ∃ v, atI vs i = some v ∧ Rep W G p v := by
 unfold atI at h ⊢
 rw [l.length]
 cases e : ixN ps.length i with
 | none => rw [e] at h; cases h
 | some j =>
  rw [e] at h
  exact l.getP h
theorem ix_P (hK : W.K = X.K) : IxR X (Bin W subOp) := by
 intro value slice pins s σ H x y v u Q I rx ry h hs
 obtain ⟨H0, G, p, q, r, sg, t1, t2, e, wq⟩ := h
 unfold subOp at e
 split at e
 ·obtain ⟨a, vs, rfl, h1, l1⟩ := t1.lst sg
  obtain ⟨w, hw, kw⟩ := atI_rep l1 (Res.of_ok e)
  exact ix_list value slice pins s σ H _ y v u Q I rx ry ⟨a, vs, _, w, rfl, t2.int, sqL hK h1, hw, wq.at sg kw⟩ hs
 ·obtain ⟨a, vs, rfl, h1, l1⟩ := t1.tup sg
  rw [hK] at h1
  obtain ⟨w, hw, kw⟩ := atI_rep l1 (Res.of_ok e)
  exact ix_tup value slice pins s σ H _ y v u Q I rx ry ⟨a, vs, _, w, rfl, t2.int, h1, hw, wq.at sg kw⟩ hs
 ·split at e
  ·rename_i hl
   obtain ⟨c, hc, e⟩ := Res.bind_ok e
   cases e
   exact ix_str value slice pins s σ H x y v u Q I rx ry ⟨_, _, c, t1.str, t2.int, lim_le hl, Res.of_ok hc, wq.at sg .s⟩ hs
  ·cases e
 ·cases e
theorem cut_rep {ps : List PV} {vs : List V} (lo hi : Option Int) (l : RepL W G ps vs) : RepL W G (cutP ps lo hi) (cutV vs lo hi) := by
 unfold cutP cutV
 rw [l.length]
 exact (l.drop _).take _
theorem sl_P (hK : W.K = X.K) : L2.SlR X (fun x lo hi H Q => ∃ H0 G p r, Same G H ∧ Top W H0 G H p x ∧ sliceOp p lo hi = .ok r ∧ Wants W G H r Q) := by
 intro pins s σ H x v vl vu lo hi sl Q I rx hs pl pu h
 obtain ⟨H0, G, p, r, sg, t1, e, wq⟩ := h
 unfold sliceOp at e
 split at e
 ·cases e
  obtain ⟨a, vs, rfl, h1, l1⟩ := t1.lst sg
  exact sl_list pins s σ H _ v vl vu _ _ sl Q I rx hs pl pu ⟨a, vs, rfl, sqL hK h1, fun p hp => wq.lst sg (cut_rep _ _ l1) hp⟩
 ·split at e
  ·cases e
  ·rename_i hw
   cases e
   obtain ⟨a, vs, rfl, h1, l1⟩ := t1.tup sg
   rw [hK] at h1
   exact sl_tup pins s σ H _ v vl vu _ _ sl Q I rx hs pl pu ⟨a, vs, rfl, h1, by rw [l1.length]; exact hw, fun p hp => wq.tup sg (cut_rep _ _ l1) hp⟩
 ·split at e
  ·rename_i hl
   cases e
   exact sl_str pins s σ H _ v vl vu _ _ sl Q I rx hs pl pu ⟨_, t1.str, lim_le hl, wq.at sg .s⟩
  ·cases e
 ·cases e
end
end Ci
set_option maxHeartbeats 4000000
namespace Ci
open PySem L2
section
variable {X : Cx} {W : Wd}
def Cal (W : Wd) (f : List PV → Res PV) : List V → Hp → VK → Prop := fun vs H Q => ∃ H0 G ps r, Same G H ∧ Paired (fun v p => Top W H0 G H p v) vs ps ∧ f ps = .ok r ∧ Wants W G H r Q
theorem tops1 {H0 G H : Hp} {vs : List V} {p : PV} (h : Paired (fun v p => Top W H0 G H p v) vs [p]) : ∃ v, vs = [v] ∧ Top W H0 G H p v := by
 cases h with
 | cons h t => cases t; exact ⟨_, rfl, h⟩
theorem tops2 {H0 G H : Hp} {vs : List V} {p q : PV} (h : Paired (fun v p => Top W H0 G H p v) vs [p, q]) : ∃ v u, vs = [v, u] ∧ Top W H0 G H p v ∧ Top W H0 G H q u := by
 cases h with
 | cons h t =>
  cases t with
  | cons h2 t2 => cases t2; exact ⟨_, _, rfl, h, h2⟩
theorem call_lenP (hK : W.K = X.K) : CallR X (.builtin "len") (Cal W bLen) := by
 intro pins s σ H xs us Q I r h
 obtain ⟨H0, G, ps, rr, sg, tp, e, wq⟩ := h
 unfold bLen at e
 split at e
 ·cases e
  obtain ⟨v, rfl, t⟩ := tops1 tp
  obtain ⟨a, vs, rfl, h1, l1⟩ := t.lst sg
  exact call_len_seq pins s σ H _ us Q I r ⟨a, vs, rfl, .inl (sqL hK h1), by rw [l1.length]; exact wq.at sg .i⟩
 ·cases e
  obtain ⟨v, rfl, t⟩ := tops1 tp
  obtain ⟨a, vs, rfl, h1, l1⟩ := t.tup sg
  rw [hK] at h1
  exact call_len_seq pins s σ H _ us Q I r ⟨a, vs, rfl, .inr h1, by rw [l1.length]; exact wq.at sg .i⟩
 ·split at e
  ·rename_i hl
   cases e
   obtain ⟨v, rfl, t⟩ := tops1 tp
   exact call_len_str pins s σ H _ us Q I r ⟨_, by rw [t.str], lim_le hl, wq.at sg .i⟩
  ·cases e
 ·cases e
theorem call_absP : CallR X (.builtin "abs") (Cal W bAbs) := by
 intro pins s σ H xs us Q I r h
 obtain ⟨H0, G, ps, rr, sg, tp, e, wq⟩ := h
 unfold bAbs at e
 split at e
 ·cases e
  obtain ⟨v, rfl, t⟩ := tops1 tp
  exact call_abs pins s σ H _ us Q I r ⟨_, by rw [t.int], wq.at sg .i⟩
 ·cases e
theorem call_maxP (hc : X.calm = true) : CallR X (.builtin "max") (Cal W bMax) := by
 intro pins s σ H xs us Q I r h
 obtain ⟨H0, G, ps, rr, sg, tp, e, wq⟩ := h
 unfold bMax at e
 split at e
 ·cases e
  obtain ⟨v, u, rfl, t, t2⟩ := tops2 tp
  exact call_max2 hc pins s σ H _ us Q I r ⟨_, _, by rw [t.int, t2.int], wq.at sg .i⟩
 ·cases e
theorem call_minP (hc : X.calm = true) : CallR X (.builtin "min") (Cal W bMin) := by
 intro pins s σ H xs us Q I r h
 obtain ⟨H0, G, ps, rr, sg, tp, e, wq⟩ := h
 unfold bMin at e
 split at e
 ·cases e
  obtain ⟨v, u, rfl, t, t2⟩ := tops2 tp
  exact call_min2 hc pins s σ H _ us Q I r ⟨_, _, by rw [t.int, t2.int], wq.at sg .i⟩
 ·cases e
theorem call_intP : CallR X (.type "int") (Cal W bInt) := by
 intro pins s σ H xs us Q I r h
 obtain ⟨H0, G, ps, rr, sg, tp, e, wq⟩ := h
 unfold bInt at e
 split at e
 ·split at e
  ·rename_i hl
   obtain ⟨n, hn, e⟩ := Res.bind_ok e
   cases e
   obtain ⟨v, rfl, t⟩ := tops1 tp
   exact call_int_txt pins s σ H _ us Q I r ⟨_, n, by rw [t.str], Res.of_ok hn, hl, wq.at sg .i⟩
  ·cases e
 ·cases e
  obtain ⟨v, rfl, t⟩ := tops1 tp
  exact call_int1 pins s σ H _ us Q I r (.inl ⟨_, by rw [t.int], wq.at sg .i⟩)
 ·cases e
  obtain ⟨v, rfl, t⟩ := tops1 tp
  exact call_int1 pins s σ H _ us Q I r (.inr ⟨_, by rw [t.bl], wq.at sg .i⟩)
 ·cases e
theorem call_strP : CallR X (.type "str") (Cal W bStr) := by
 intro pins s σ H xs us Q I r h
 obtain ⟨H0, G, ps, rr, sg, tp, e, wq⟩ := h
 unfold bStr at e
 split at e
 ·split at e
  ·rename_i hl
   cases e
   obtain ⟨v, rfl, t⟩ := tops1 tp
   exact call_str_int pins s σ H _ us Q I r ⟨_, by rw [t.int], hl, wq.at sg .s⟩
  ·cases e
 ·cases e
theorem chars_rep {G : Hp} (z : Str) : RepL W G (chars z) (z.cps.toList.map fun c => V.str ⟨#[c]⟩) := by
 unfold chars
 induction z.cps.toList with
 | nil => exact .nil
 | cons c r ih => exact .cons .s ih
theorem call_listP (hc : X.calm = true) (hK : W.K = X.K) : CallR X (.type "list") (Cal W bList) := by
 intro pins s σ H xs us Q I r h
 obtain ⟨H0, G, ps, rr, sg, tp, e, wq⟩ := h
 unfold bList at e
 split at e
 ·cases e
  obtain ⟨v, rfl, t⟩ := tops1 tp
  obtain ⟨a, vs, rfl, h1, l1⟩ := t.lst sg
  exact call_list_of pins s σ H _ us Q I r ⟨a, vs, rfl, .inl (sqL hK h1), fun p hp => wq.lst sg l1 hp⟩
 ·cases e
  obtain ⟨v, rfl, t⟩ := tops1 tp
  obtain ⟨a, vs, rfl, h1, l1⟩ := t.tup sg
  rw [hK] at h1
  exact call_list_of pins s σ H _ us Q I r ⟨a, vs, rfl, .inr h1, fun p hp => wq.lst sg l1 hp⟩
 ·split at e
  ·rename_i hl
   cases e
   obtain ⟨v, rfl, t⟩ := tops1 tp
   exact call_list_of_str hc pins s σ H _ us Q I r ⟨_, by rw [t.str], lim_le hl, fun p hp => wq.lst sg (chars_rep _) hp⟩
  ·cases e
 ·cases e
theorem call_tupleP (hK : W.K = X.K) : CallR X (.type "tuple") (Cal W bTuple) := by
 intro pins s σ H xs us Q I r h
 obtain ⟨H0, G, ps, rr, sg, tp, e, wq⟩ := h
 unfold bTuple at e
 split at e
 ·cases e
  obtain ⟨v, rfl, t⟩ := tops1 tp
  obtain ⟨a, vs, rfl, h1, l1⟩ := t.lst sg
  exact call_tuple_of pins s σ H _ us Q I r ⟨a, vs, rfl, .inl ⟨sqL hK h1, fun p hp => wq.tup sg l1 hp⟩⟩
 ·cases e
  obtain ⟨v, rfl, t⟩ := tops1 tp
  have t' := t
  obtain ⟨a, vs, rfl, h1, l1⟩ := t.tup sg
  rw [hK] at h1
  exact call_tuple_of pins s σ H _ us Q I r ⟨a, vs, rfl, .inr ⟨h1, wq.at sg (t'.elim id fun z => z.elim)⟩⟩
 ·cases e
theorem call_allP (hc : X.calm = true) (hK : W.K = X.K) : CallR X (.builtin "all") (Cal W bAll) := by
 intro pins s σ H xs us Q I r h
 obtain ⟨H0, G, ps, rr, sg, tp, e, wq⟩ := h
 unfold bAll at e
 split at e
 ·obtain ⟨bs, hb, e⟩ := Res.bind_ok e
  cases e
  obtain ⟨v, rfl, t⟩ := tops1 tp
  obtain ⟨a, vs, rfl, h1, l1⟩ := t.lst sg
  cases boolsOf_rep l1 (Res.of_ok hb)
  exact call_all hc pins s σ H _ us Q I r ⟨a, bs, rfl, sqL hK h1, wq.at sg .b⟩
 ·cases e
theorem sumFits {ns : List Int} (h : (ns.all fun n => decide (-(2 ^ 32) < n) && decide (n < 2 ^ 32)) = true) (hl : ns.length < LIM) : PyProof.Rows.SumFits ns := by
 have hb : ∀ n ∈ ns, -(2 ^ 32) < n ∧ n < 2 ^ 32 := fun n hn => by
  have := List.all_eq_true.mp h n hn
  simpa using this
 have hs : ∀ l : List Int, (∀ n ∈ l, -(2 ^ 32) < n ∧ n < 2 ^ 32) → -(2 ^ 32 * (l.length : Int)) ≤ l.sum ∧ l.sum ≤ 2 ^ 32 * (l.length : Int) := fun l => by
  induction l with
  | nil => intro _; simp
  | cons a l ih =>
   intro k
   have h1 := k a (by simp)
   have h2 := ih fun n hn => k n (by simp [hn])
   rw [List.sum_cons, List.length_cons]
   omega
 intro j hj
 have e : ns.getD j 0 = ns[j] := by rw [List.getD_eq_getElem?_getD, List.getElem?_eq_getElem hj]; rfl
 have h1 := hb ns[j] (List.getElem_mem hj)
 have h2 := hs (ns.take (j + 1)) fun n hn => hb n (List.mem_of_mem_take hn)
 have h3 : (ns.take (j + 1)).length ≤ ns.length := by rw [List.length_take]; omega
 have h4 : ns.length < 1000000 := hl
 rw [e]
 unfold InLong
 constructor <;> omega
theorem call_sumP (hc : X.calm = true) (hK : W.K = X.K) : CallR X (.builtin "sum") (Cal W bSum) := by
 intro pins s σ H xs us Q I r h
 obtain ⟨H0, G, ps, rr, sg, tp, e, wq⟩ := h
 unfold bSum at e
 split at e
 ·obtain ⟨ns, hb, e⟩ := Res.bind_ok e
  split at e
  ·rename_i hcond
   rw [Bool.and_eq_true] at hcond
   cases e
   obtain ⟨v, rfl, t⟩ := tops1 tp
   obtain ⟨a, vs, rfl, h1, l1⟩ := t.lst sg
   cases intsOf_rep l1 (Res.of_ok hb)
   exact call_sumI hc pins s σ H _ us Q I r ⟨a, ns, rfl, sqL hK h1, sumFits hcond.1 (of_decide_eq_true hcond.2), wq.at sg .i⟩
  ·cases e
 ·cases e
def Mtd (W : Wd) (f : List PV → Res PV) : V → List V → Hp → VK → Prop := fun x vs H Q => Cal W f (x :: vs) H Q
theorem mt_countSP : MtR X "str.count" (Mtd W mCountS) := by
 intro pins s σ H x xs v us Q I rx r h
 obtain ⟨H0, G, ps, rr, sg, tp, e, wq⟩ := h
 unfold mCountS at e
 split at e
 ·cases e
  obtain ⟨v1, u1, e1, t, t2⟩ := tops2 tp
  cases e1
  exact mt_countS pins s σ H _ _ v us Q I rx r ⟨_, _, t.str, by rw [t2.str], wq.at sg .i⟩
 ·cases e
theorem strsAre : ∀ {ys : List Str} {its : List Value}, Vals (ys.map V.str) its → PyProof.Rows.StrsAre its ys
 | [], _, .nil => .nil
 | y :: ys, _, .cons r t => by
  obtain ⟨tk, rfl⟩ := r
  exact .cons y tk (strsAre t)
theorem mt_joinP (hK : W.K = X.K) : MtR X "str.join" (Mtd W mJoin) := by
 intro pins s σ H x xs v us Q I rx r h
 obtain ⟨H0, G, ps, rr, sg, tp, e, wq⟩ := h
 unfold mJoin at e
 split at e
 ·obtain ⟨ys, hy, e⟩ := Res.bind_ok e
  split at e
  ·rename_i hc
   cases e
   obtain ⟨v1, u1, e1, t, t2⟩ := tops2 tp
   cases e1
   cases t.str
   obtain ⟨tk, rfl⟩ := rx
   obtain ⟨a, vs, rfl, h1, l1⟩ := t2.lst sg
   obtain ⟨u, rfl, ru⟩ := Vals.one r
   cases ru
   cases strsOf_rep l1 (Res.of_ok hy)
   obtain ⟨its, rv, z, _⟩ := I.list (sqL hK h1)
   refine PyProof.Rows.join_listW z.isList (by simpa using strsAre rv) hc.1 (Nat.le_trans hc.2 (by decide)) fun t' k => ⟨.str _, H, I.tok _, ⟨_, rfl⟩, wq.at sg .s⟩
  ·cases e
 ·cases e
theorem mt_countLP (hK : W.K = X.K) (hu : X.A.units + 64 < cLine) : MtR X "list.count" (Mtd W mCountL) := by
 intro pins s σ H x xs v us Q I rx r h
 obtain ⟨H0, G, ps, rr, sg, tp, e, wq⟩ := h
 unfold mCountL at e
 split at e
 ·split at e
  ·rename_i hc
   rw [Bool.and_eq_true] at hc
   cases e
   obtain ⟨v1, u1, e1, t, t2⟩ := tops2 tp
   cases e1
   obtain ⟨a, vs, rfl, h1, l1⟩ := t.lst sg
   cases rx
   obtain ⟨u, rfl, ru⟩ := Vals.one r
   obtain ⟨its, n, rv, hl, _, e⟩ := lstR hK I h1
   obtain ⟨f, he, hv⟩ := item_eq (A := X.A.in1) I hK sg (by show X.A.units + 1 + 32 < _; omega) hc.1 hc.2 t2 ru l1 rv
   refine PySem.call_meets PySem.F.slot_list_count ⟨_, e, rfl⟩ PySem.F.entry_list_count (PySem.F.args_list_count_2 _ _) (SeqAt.list_countAt a its.toArray n none #[] u f) ⟨e, fun y hy => he y (by simpa using hy), ?_⟩
   refine ⟨.int _, H, I.tok _, ⟨_, rfl⟩, ?_⟩
   rw [count_of (by rw [← hl, l1.length]) hv]
   exact wq.at sg .i
  ·cases e
 ·cases e
theorem mt_indexP (hK : W.K = X.K) (hu : X.A.units + 64 < cLine) : MtR X "list.index" (Mtd W mIndex) := by
 intro pins s σ H x xs v us Q I rx r h
 obtain ⟨H0, G, ps, rr, sg, tp, e, wq⟩ := h
 unfold mIndex at e
 split at e
 ·rename_i ys w
  split at e
  ·rename_i hc
   rw [Bool.and_eq_true, Bool.and_eq_true] at hc
   split at e
   ·rename_i j hj
    cases e
    obtain ⟨v1, u1, e1, t, t2⟩ := tops2 tp
    cases e1
    obtain ⟨a, vs, rfl, h1, l1⟩ := t.lst sg
    cases rx
    obtain ⟨u, rfl, ru⟩ := Vals.one r
    obtain ⟨its, n, rv, hl, _, e⟩ := lstR hK I h1
    have hlen : its.length = ys.length := by rw [← hl, l1.length]
    have h1000 : ys.length < 1000 := of_decide_eq_true hc.2
    obtain ⟨f, he, hv⟩ := item_eq (A := X.A.in1) I hK sg (by show X.A.units + 1 + 32 < _; omega) hc.1.1 hc.1.2 t2 ru l1 rv
    rw [List.findIdx?_eq_some_iff_getElem] at hj
    obtain ⟨hlt, hyes, hno⟩ := hj
    refine PySem.call_meets PySem.F.slot_list_index ⟨_, e, rfl⟩ PySem.F.entry_list_index (PySem.F.args_list_index_2 _ _) (SeqAt.list_indexAt a its.toArray n none #[] u f j (by simpa using (by omega : j < its.length)) (by omega) ?_ fun m hm1 hm2 => ?_) ⟨e, fun y hy => he y (by simpa using hy), ⟨.int _, H, I.tok _, ⟨_, rfl⟩, wq.at sg .i⟩⟩
    ·have := hv j (its[j]'(by omega)) ys[j] (List.getElem?_eq_getElem (by omega)) (List.getElem?_eq_getElem hlt)
     simpa using this.trans hyes
    ·have hm : m < ys.length := by omega
     have := hv m (its[m]'(by omega)) ys[m] (List.getElem?_eq_getElem (by omega)) (List.getElem?_eq_getElem hm)
     have z := hno m hm2
     simp only [Bool.not_eq_true] at z
     simpa using this.trans z
   ·cases e
  ·cases e
 ·cases e
def tyN : Ty → String
 | .int => "int" | .bool => "bool" | .str => "str" | .tuple => "tuple" | .list => "list"
theorem kit_k {K : PySem.W.Frag} (t : Ty) : Cw.kit K "NoneType" (tyN t) false ∧ (∀ b, Cw.kit K "bool" (tyN t) (isTy t (.bl b))) ∧ (∀ i, Cw.kit K "int" (tyN t) (isTy t (.int i))) ∧ (∀ z, Cw.kit K "str" (tyN t) (isTy t (.str z))) ∧ (∀ z, Cw.kit K "tuple" (tyN t) (isTy t (.tup z))) ∧ (∀ z, Cw.kit K "list" (tyN t) (isTy t (.lst z))) := by
 cases t
 all_goals refine ⟨?_, fun b => ?_, fun b => ?_, fun b => ?_, fun b => ?_, fun b => ?_⟩
 all_goals first
  | exact Cw.kit_same _
  | exact Cw.kit_of (b := false) (by decide +kernel) (by decide +kernel) (by decide +kernel)
  | exact Cw.kit_of (b := true) (by decide +kernel) (by decide +kernel) (by decide +kernel)
theorem call_tyP (hK : W.K = X.K) (t : Ty) : CallR X (.builtin "isinstance") (fun xs H Q => ∃ v H0 G p r, xs = [v, .ty (tyN t)] ∧ Same G H ∧ Top W H0 G H p v ∧ tyOp t p = .ok r ∧ Wants W G H r Q) := by
 intro pins s σ H xs us Q I rr h
 obtain ⟨v, H0, G, p, r, rfl, sg, tp, e, wq⟩ := h
 obtain ⟨u, u2, rfl, ru, ru2⟩ := Vals.two rr
 cases ru2
 obtain ⟨k1, k2, k3, k4, k5, k6⟩ := kit_k (K := X.K) t
 cases p with
 | exc c => cases e
 | dct a b => cases e
 | non => cases e; cases tp.non; cases ru; cases t <;> exact PySem.W.kia_one PySem.W.kitx_none I.kIn True.intro k1 (fun z => nomatch z) fun tk => ⟨.bl _, H, I.tok tk, rfl, wq.at sg .b⟩
 | bl b => cases e; cases tp.bl; cases ru; exact PySem.W.kia_one PySem.W.kitx_bool I.kIn True.intro (k2 b) (fun z => nomatch z) fun tk => ⟨.bl _, H, I.tok tk, rfl, wq.at sg .b⟩
 | int b => cases e; cases tp.int; obtain ⟨t1, rfl⟩ := ru; exact PySem.W.kia_one PySem.W.kitx_int I.kIn True.intro (k3 b) (fun z => nomatch z) fun tk => ⟨.bl _, H, I.tok tk, rfl, wq.at sg .b⟩
 | str b => cases e; cases tp.str; obtain ⟨t1, rfl⟩ := ru; exact PySem.W.kia_one PySem.W.kitx_str I.kIn True.intro (k4 b) (fun z => nomatch z) fun tk => ⟨.bl _, H, I.tok tk, rfl, wq.at sg .b⟩
 | tup b =>
  cases e
  obtain ⟨a, vs, rfl, h1, l1⟩ := tp.tup sg
  rw [hK] at h1
  cases ru
  obtain ⟨its, _, ⟨o, e1, e2, _⟩, _⟩ := I.tuple h1
  exact PySem.W.kia_one PySem.W.kitx_tuple I.kIn ⟨o, e1, e2⟩ (k5 b) (fun z => nomatch z) fun tk => ⟨.bl _, H, I.tok tk, rfl, wq.at sg .b⟩
 | lst b =>
  cases e
  obtain ⟨a, vs, rfl, h1, l1⟩ := tp.lst sg
  cases ru
  obtain ⟨its, n, _, _, _, e1⟩ := lstR hK I h1
  exact PySem.W.kia_one PySem.W.kitx_list I.kIn ⟨_, e1, rfl⟩ (k6 b) (fun z => nomatch z) fun tk => ⟨.bl _, H, I.tok tk, rfl, wq.at sg .b⟩
end
end Ci
set_option maxHeartbeats 4000000
namespace L2
open PySem PySem.Spec PyProof.Rows
section
variable {X : Cx} {scope : Scope} {xs ys : List Str} {is : List Nat}
theorem ps_setCompIf {i₀ : Nat} {x₀ : Str} {pos' spos : Pos} {elt tg iter tst : Expr} {pos : Pos} {wi : TI} {g : TG} {te : TE} {tt : TT} (hN₀ : X.N.Nodup) (hi₀ : X.N[i₀]? = some x₀) (hx₀ : Loc X.env.scope x₀) (hc : X.calm = true) (S : CompSc X scope xs ys is) (hi : PI X tg iter wi)
 (hg : ∀ fp s1 H1 C, PG (compCx X (xs ++ ys) scope (clOf X.env ys) fp s1 H1 C) tg g) (ht : ∀ fp s1 H1 C, PT (compCx X (xs ++ ys) scope (clOf X.env ys) fp s1 H1 C) tst tt) (he : ∀ fp s1 H1 C, PE (compCx X (xs ++ ys) scope (clOf X.env ys) fp s1 H1 C) elt te)
 (hsw : swapsWith (.ListComp elt [⟨tg, iter, [tst], 0⟩] scope pos) (some (.Name x₀ pos')) spos.line X.env = pure true := by rfl)
 (hs : ∀ x, foldedSetIterable iter X.env x = pure x := by intro _; rfl) (hf₀ : X.fn x₀ = true ∨ X.env.scope.names.lookup x₀ = some .local := by first | exact .inl rfl | exact .inr rfl | assumption) :
 PS X (.Assign [.Name x₀ pos'] (.ListComp elt [⟨tg, iter, [tst], 0⟩] scope pos) spos) (tAsg (tCompIf wi xs.length g tt te is) (gName i₀)) := by
 intro pins s σ H D₀ I h
 rw [exec_Assign_Name_used _ _ _ _ hsw]
 refine wpAny_bind (wpAny_standAt (wpAny_bind ?_))
 show wpAny _ X.A (do let _ ← comprehension (.ListComp elt [⟨tg, iter, [tst], 0⟩] scope pos) scope X.env _ (newList []) false (eval iter X.env) (some (assign (.Name x₀ pos') X.env))) _ _ s
 refine wpAny_bind (wpAny_mono (comp_core (QQ := fun _ s' => ∃ σ2 H2, Inv X pins σ2 H2 s' ∧ D₀.nx σ2 H2) (Q := fun v H4 => gName i₀ v σ H4 D₀.nx) hc S hi hg (fun fp s1 H1 C => pif_one (ht fp s1 H1 C)) he hs I h fun D C s4 H4 m I5 hn ⟨g0, g1, _, g3, g4, g5⟩ q => ?_) (fun _ s' hq => wpAny_pure (wpAny_pure hq)) fun _ _ e => e)
 refine wpAny_assign_Name (store_ok2 I5 hN₀ hi₀ hx₀ (show RelV (.ref D) (.ref D) from rfl) (fun s6 I6 ⟨a6, sb6, ha6⟩ => ?_) hf₀)
 have nea : C ≠ a6 := by
  rcases ha6 with z | z
  ·rw [z]; exact g1
  ·exact fun z2 => g4 _ _ z z2.symm
 exact ⟨m, hn.sameBut sb6 nea, fun h' hs' => ⟨_, _, I6.turned (t' := s6.toks) (it := C) (fun b o hb e => hs'.extBut b o hb e) g0 g1 g3 g4 g5, q⟩⟩
end
end L2
set_option maxHeartbeats 4000000
namespace L2
open PySem PySem.Spec PyProof.Rows
open PySem.AutoSeq1 (wpAny_loadPart')
section
variable {prog : Program} {w : World} {A : Around} {E : Value → Shared → Prop} {s : Shared} {jt tu : Addr} {i : Nat} {its : Array Value} {Q : Value → Shared → Prop}
theorem nextOf_tup_item {x : Value} (ih : s.heap.IsTupleIter jt tu i) (th : s.heap.IsTuple tu its) (hx : its[i]? = some x)
 (k : ∀ g, g.IsTupleIter jt tu (i + 1) → Heap.SameBut jt s.heap g → Q x { s with heap := g }) : wpAny (model prog w) A (Builtin.SmallTypes.nextOf (.ref jt)) Q E s := by
 obtain ⟨ob, e1, e2, e3⟩ := id ih
 obtain ⟨ot, f1, _, nn, f2⟩ := th
 unfold Builtin.SmallTypes.nextOf
 refine wpAny_bind (wpAny_callSpecial?_slot (name := Str.ofString "__next__") ih.typeIs F.slot_tuple_iterator_next (wpAny_call_entry F.slot_tuple_iterator_next ih.typeIs F.entry_tuple_iterator_next ?_ (F.args_tuple_iterator_next_1 _)))
 show wpAny _ _ (field (.ref jt) 0 >>= _) _ _ s
 refine wpAny_bind (wpAny_field e1 e3 (x := .ref tu) rfl ?_)
 show wpAny _ _ (if (Value.ref tu == Value.none) = true then _ else _) _ _ s
 rw [if_neg (show ¬ ((Value.ref tu == Value.none) = true) from Bool.false_ne_true)]
 show wpAny _ _ (field (.ref jt) 1 >>= _) _ _ s
 refine wpAny_bind (wpAny_field e1 e3 (x := .int i 0) rfl ?_)
 show wpAny _ _ (seqItems? (.ref tu) >>= _) _ _ s
 refine wpAny_bind (wpAny_seqItems f1 f2 ?_)
 simp only [Int.toNat_natCast, hx]
 refine wpAny_bind (wpAny_setField e1 e3 (by simp) (wpAny_pure ⟨x, rfl, wpAny_pure (k _ ?_ (Heap.SameBut.update ..))⟩))
 exact ⟨_, Heap.get?_update_self _ e1 (Obj.isFreed_of_fields (Obj.data_mapFields e3 _)), (Obj.cls_mapFields ..).trans e2, by rw [Obj.data_mapFields e3]; simp [rawInt]⟩
theorem nextOf_tup_end (hh : A.handled = none) (ih : s.heap.IsTupleIter jt tu i) (th : s.heap.IsTuple tu its) (hx : its[i]? = none)
 (k : ∀ g e, Heap.ExtBut jt s.heap g → (∃ o, g.get? e = some o ∧ o.cls = .type "StopIteration") → E (.ref e) { s with heap := g }) : wpAny (model prog w) A (Builtin.SmallTypes.nextOf (.ref jt)) Q E s := by
 obtain ⟨ob, e1, e2, e3⟩ := id ih
 obtain ⟨ot, f1, _, nn, f2⟩ := th
 unfold Builtin.SmallTypes.nextOf
 refine wpAny_bind (wpAny_callSpecial?_slot (name := Str.ofString "__next__") ih.typeIs F.slot_tuple_iterator_next (wpAny_call_entry F.slot_tuple_iterator_next ih.typeIs F.entry_tuple_iterator_next ?_ (F.args_tuple_iterator_next_1 _)))
 show wpAny _ _ (field (.ref jt) 0 >>= _) _ _ s
 refine wpAny_bind (wpAny_field e1 e3 (x := .ref tu) rfl ?_)
 show wpAny _ _ (if (Value.ref tu == Value.none) = true then _ else _) _ _ s
 rw [if_neg (show ¬ ((Value.ref tu == Value.none) = true) from Bool.false_ne_true)]
 show wpAny _ _ (field (.ref jt) 1 >>= _) _ _ s
 refine wpAny_bind (wpAny_field e1 e3 (x := .int i 0) rfl ?_)
 show wpAny _ _ (seqItems? (.ref tu) >>= _) _ _ s
 refine wpAny_bind (wpAny_seqItems f1 f2 ?_)
 simp only [Int.toNat_natCast, hx]
 refine wpAny_bind (wpAny_rule (wpAny_bind (wpAny_setField e1 e3 (by simp) ?_)))
 show wpAny _ _ (newExc (.type "StopIteration") [] >>= _) _ _ _
 refine wpAny_bind ?_
 simp only [newExc, newTuple]
 refine wpAny_bind (wpAny_newObj_type ?_ (by size_fits))
 refine wpAny_bind (m := firstArgMember _ _) (wpAny_of_eq (a := Value.none) (by first | rfl | (simp only [firstArgMember]; rfl)) ?_)
 refine wpAny_newObj_type ?_ (by size_fits)
 simp only [raiseNew]
 refine wpAny_bind (wpAny_handled ?_)
 first | rw [show A.in1.handled = none from hh] | rw [hh]
 refine wpAny_bind (wpAny_pure (wpAny_throw ?_))
 exact k _ _ (((Heap.SameBut.update ..).extBut.push _).push _) ⟨_, Heap.get?_push_size _ rfl, rfl⟩
end
theorem draws_tup {prog : Program} {w : World} {A : Around} (hh : A.handled = none) (jt tu : Addr) (hne : tu ≠ jt) (its : Array Value) :
 Draws prog w A jt [jt, tu] its.size (fun i v => its[i]? = some v) (fun i h => h.IsTupleIter jt tu i ∧ h.IsTuple tu its) where
 live := fun _ _ st => let ⟨o, ho, _⟩ := st.1; ⟨o, ho⟩
 frame := fun _ _ _ st hk => ⟨st.1.at fun o e => hk jt (by simp) o e, by obtain ⟨o, e, r⟩ := st.2; exact ⟨o, hk tu (by simp) o e, r⟩⟩
 item := fun i s Q E hi st hQ => nextOf_tup_item st.1 st.2 (x := its[i]) (by simp [hi]) fun g ig sb => hQ _ g s.toks (by simp [hi]) ⟨ig, by obtain ⟨o, e, r⟩ := st.2; exact ⟨o, sb.extBut _ _ hne e, r⟩⟩ sb
 done := fun s Q E st hE => nextOf_tup_end hh st.1 st.2 (by simp) hE
theorem enum_newT (l : Addr) (items : Array Value) (n : Nat) (dct : Option Addr) (sl : Array (Option Value)) :
 Meets (Builtin.«enumerate.__new__» ⟨[.type "enumerate", .ref l], []⟩) (fun _ R s => s.heap.get? l = some { cls := .type "tuple", dict := dct, data := .seq items n, slots := sl } ∧
  R (.ok (.ret (.ref (s.heap.push { cls := .type "tuple_iterator", data := .fields #[.ref l, .int 0 0] }).objs.size)))
   { s with heap := (s.heap.push { cls := .type "tuple_iterator", data := .fields #[.ref l, .int 0 0] }).push { cls := .type "enumerate", data := .fields #[.none, .bool false, .ref s.heap.objs.size, rawInt 0, .none, .none] } }) :=
 .of_wp fun prog w A R s h => by
  obtain ⟨hp, g, d, tk, os⟩ := s
  obtain ⟨hl, h⟩ := h
  have hsub := sub_enumerate
  have hL : Heap.IsTuple (Shared.heap ⟨hp, g, d, tk, os⟩) l items := ⟨_, hl, rfl, n, rfl⟩
  wp_walk using wpAny_loadPart' hl
  refine wpAny_stack_any fun st => wpAny_pure ?_
  split
  ·rename_i c _ _ _ _ _
   cases (c == Value.type "enumerate") <;> (wp_walk using wpAny_loadPart' hl, wpAny_pyIter_tuple hL; exact ⟨_, rfl, h⟩)
  ·wp_walk using wpAny_loadPart' hl, wpAny_pyIter_tuple hL
   exact ⟨_, rfl, h⟩
end L2
set_option maxHeartbeats 4000000
namespace L2
open PySem PySem.Spec PyProof.Rows
theorem ne_cls {h : Heap} {a b : Addr} {o1 o2 : Obj} (h1 : h.get? a = some o1) (h2 : h.get? b = some o2) (hc : o1.cls ≠ o2.cls) : a ≠ b := fun z => by
 subst z
 rw [h1] at h2
 cases h2
 exact hc rfl
theorem strIter_cases (z : Str) : strIterType z = "str_ascii_iterator" ∨ strIterType z = "str_iterator" := by
 unfold strIterType
 split
 ·exact .inl rfl
 ·exact .inr rfl
theorem enum_step {X : Cx} {pins : List (Addr × Obj)} {σ : St} {H : Hp} {s : Shared} {E : Value → Shared → Prop} {e it : Addr} {fpD : List Addr} {n i : Nat} {Pv : Nat → Value → Prop} {Sv : Nat → Heap → Prop} {old : Value} {Gx : V → Prop} {elts : List Expr} {x1 : Nat} {pos : Pos}
 (I : Inv X pins σ H s) (D : Draws X.prog X.w X.A.in1 it fpD n Pv Sv) (he : IsEnum s.heap e it i old) (hst : Sv i s.heap) (hlt : i < n) (hne : e ≠ it) (hef : e ∉ fpD) (hf : ∀ b ∈ [e, it], FpOk X pins H b) (hP : ∀ u, Pv i u → ∃ x, RelV x u ∧ Gx x) :
 wpAny (model X.prog X.w) X.A (pyNext (.ref e)) (fun r s1 => ∃ u, r = some u ∧ wpAny (model X.prog X.w) X.A (letOwnedTupleGo (.Tuple elts x1 pos) (.ref e) u) (fun _ s2 => ∃ x p, u = .ref p ∧ Gx x ∧ H p = none ∧ e ≠ p ∧ it ≠ p ∧
  Inv X pins σ (upd H p (.tup [.int i, x])) s2 ∧ (∃ old', IsEnum s2.heap e it ((i : Int) + 1) old') ∧ Sv (i + 1) s2.heap) E s1) E s := by
 refine wpAny_pyNext_enum_itemD D he hst hlt hne hef fun u h' tk pu ho st' ht hz kk => ?_
 obtain ⟨x, rx, gx⟩ := hP u pu
 obtain ⟨f0, f1, f2, f3, f4, f5⟩ := hf e (by simp)
 obtain ⟨g0, g1, g2, g3, g4, g5⟩ := hf it (by simp)
 have hnew : H s.heap.objs.size = none := I.hok.fresh (Nat.le_refl _)
 obtain ⟨oi, hoi⟩ := D.live _ _ hst
 have hep : e ≠ s.heap.objs.size := Nat.ne_of_lt (Heap.lt_size he)
 have hip : it ≠ s.heap.objs.size := Nat.ne_of_lt (Heap.lt_size hoi)
 have neH : ∀ b o, H b = some o → b ≠ e ∧ b ≠ it ∧ b ≠ s.heap.objs.size := fun b o q => ⟨(fun z => (by rw [z, f0] at q; cases q)), (fun z => (by rw [z, g0] at q; cases q)), Nat.ne_of_lt (I.hok.lt q)⟩
 have I1 : Inv X pins σ (upd H s.heap.objs.size (.tup [.int i, x])) { s with heap := h', toks := tk + 1 } := by
  refine I.step (g' := s.gens) (d' := s.drawn) (ch := [e, it]) (fun b hb => ?_) (fun b o _ _ hc q _ => kk b o (fun z => hc (by simp [z])) (fun z => hc (by simp [z])) q)
   (fun b o _ _ hc q _ => ⟨o.slots, kk b o (fun z => hc (by simp [z])) (fun z => hc (by simp [z])) q⟩) (fun b o _ q nb => by rw [upd_ne (Nat.ne_of_lt (Heap.lt_size q))]; exact nb)
   (fun b o hc q => ⟨o, kk b o (fun z => hc (by simp [z])) (fun z => hc (by simp [z])) q⟩) (fun b xs q => by rw [upd_ne (neH b _ q).2.2]; exact q) (fun b o u q => by rw [upd_ne (neH b _ q).2.2]; exact q)
   (fun b ps q => ⟨#[], by rw [upd_ne (neH b _ q).2.2, q]; simp⟩) (fun m hm => ?_) (fun b o q => ?_) I.bare
  ·rcases List.mem_cons.mp hb with z | z
   ·subst z; exact ⟨f3, f1, f4, f5⟩
   ·rw [List.mem_singleton.mp z]; exact ⟨g3, g1, g4, g5⟩
  ·obtain ⟨o, es, ep, q, r⟩ := hm
   exact ⟨o, es, ep, kk _ o (Ne.symm f1) (Ne.symm g1) q, r⟩
  ·by_cases hb : b = s.heap.objs.size
   ·subst hb
    rw [upd_same] at q
    cases q
    exact ⟨(show 2 ≤ sizeLine by decide), [.int i tk, u], .cons ⟨tk, rfl⟩ (.cons rx .nil), ⟨_, ht, rfl, _, rfl⟩⟩
   ·rw [upd_ne hb] at q
    refine (I.hok b o q).stay (fun c v hc z => kk c v ?_ ?_ z) (fun c z => by rw [upd_ne (neH c _ z).2.2]; exact z) fun c xs z => by rw [upd_ne (neH c _ z).2.2]; exact z
    ·rcases hc with z' | z'
     ·rw [z']; exact (neH b o q).1
     ·exact (neH c _ z').1
    ·rcases hc with z' | z'
     ·rw [z']; exact (neH b o q).2.1
     ·exact (neH c _ z').2.1
 refine ⟨_, rfl, wpAny_letOwnedTupleGo_enum ho fun h2 he2 sb => ?_⟩
 refine ⟨x, s.heap.objs.size, rfl, gx, hnew, hep, hip, I1.turned (t' := tk + 1) (it := e) (fun b o hb q => sb.extBut b o hb q) (by rw [upd_ne hep]; exact f0) f1 f3 f4 f5, ⟨_, he2⟩, D.frame _ _ _ st' fun b hb o q => sb.extBut b o (fun z => hef (z ▸ hb)) q⟩
def Ite (K : PySem.W.Frag) (a : Addr) (xs : List V) : It :=
 ⟨fun i H => SqT K H a xs ∧ i < xs.length, fun i H v H' => ∃ p x, v = .ref p ∧ H p = none ∧ H' = upd H p (.tup [.int (i : Nat), x]) ∧ xs[i]? = some x, fun i H => SqT K H a xs ∧ i = xs.length⟩
def Ies (z : Str) : It :=
 ⟨fun i _ => i < z.cps.size, fun i H v H' => ∃ p c, v = .ref p ∧ H p = none ∧ H' = upd H p (.tup [.int (i : Nat), .str ⟨#[c]⟩]) ∧ z.cps[i]? = some c, fun i _ => i = z.cps.size⟩
theorem turn_enumT {P : Program} {w : World} {K : PySem.W.Frag} {elts : List Expr} {x1 : Nat} {pos : Pos} (a e it : Addr) (xs : List V) : Turn P w K (.Tuple elts x1 pos) (Ite K a xs) [e, it] e (fun i h => (∃ old, IsEnum h e it i old) ∧ h.IsTupleIter it a i) where
 mem := by simp
 obj := fun i h st b hb => by
  obtain ⟨⟨old, he⟩, o, ho, _, hd⟩ := st
  rcases List.mem_cons.mp hb with z | z
  ·subst z; exact ⟨_, he, fun v q => by cases q⟩
  ·rw [List.mem_singleton.mp z]; exact ⟨o, ho, fun v q => by rw [hd] at q; cases q⟩
 keep := fun i h h' st k => ⟨by obtain ⟨old, he⟩ := st.1; exact ⟨old, k e (by simp) _ he⟩, st.2.at fun o q => k it (by simp) o q⟩
 item := by
  intro X hP hw hK hc i pins s σ H E I hf st hg
  subst hP hw hK
  obtain ⟨hq, hlt⟩ := hg
  obtain ⟨⟨old, he⟩, hit⟩ := st
  obtain ⟨its, rv, p, hz⟩ := I.tuple hq
  have hl := rv.length
  have hit0 := hit
  obtain ⟨oi, e1, e2, _⟩ := hit
  obtain ⟨oa, a1, a2, _⟩ := id p
  have nea : a ≠ it := ne_cls a1 e1 (by rw [a2, e2]; decide +kernel)
  have nee : e ≠ it := ne_cls he e1 (by rw [e2]; show Value.type "enumerate" ≠ _; decide +kernel)
  have neae : e ≠ a := ne_cls he a1 (by rw [a2]; show Value.type "enumerate" ≠ _; decide +kernel)
  refine thn (enum_step (Gx := fun x => xs[i]? = some x) I (draws_tup (A := X.A.in1) (I.ok.hd hc) it a nea its.toArray) he ⟨hit0, p⟩ (by rw [List.size_toArray]; omega) nee (by simp [nee, neae]) hf (fun u hu => ?_)) fun r s1 ⟨u, hr, k⟩ => ⟨u, hr, thn k fun _ s2 ⟨x, q, z1, z2, z3, z4, z5, z6, z7, z8⟩ => ?_⟩
  ·have hxi : xs[i]? = some xs[i] := List.getElem?_eq_getElem hlt
   obtain ⟨u', hu', ru'⟩ := rv.get hxi
   have : its.toArray[i]? = some u' := by simpa using hu'
   have hu2 : its.toArray[i]? = some u := hu
   rw [this] at hu2
   cases hu2
   exact ⟨xs[i], ru', hxi⟩
  ·exact ⟨.ref q, _, z6, z1.symm ▸ rfl, ⟨q, x, rfl, z3, rfl, z2⟩, ⟨z7, z8.1⟩, fun b hb => by
    rcases List.mem_cons.mp hb with w | w
    ·rw [w, upd_ne z4]; exact (hf e (by simp)).1
    ·rw [List.mem_singleton.mp w, upd_ne z5]; exact (hf it (by simp)).1⟩
 done := by
  intro X hP hw hK hc i pins s σ H E I hf st hg
  subst hP hw hK
  obtain ⟨hq, rfl⟩ := hg
  obtain ⟨⟨old, he⟩, hit⟩ := st
  obtain ⟨its, rv, p, hz⟩ := I.tuple hq
  have hl := rv.length
  have hit0 := hit
  obtain ⟨oi, e1, e2, _⟩ := hit
  obtain ⟨oa, a1, a2, _⟩ := id p
  have nea : a ≠ it := ne_cls a1 e1 (by rw [a2, e2]; decide +kernel)
  obtain ⟨g0, g1, g2, g3, g4, g5⟩ := hf it (by simp)
  refine wpAny_pyNext_enum_endD (draws_tup (A := X.A.in1) (I.ok.hd hc) it a nea its.toArray) he ⟨by rw [List.size_toArray, ← hl]; exact hit0, p⟩ fun h' eb => ⟨rfl, I.turned (t' := s.toks) (fun b o hb q => eb b o hb q) g0 g1 g3 g4 g5⟩
 self := fun _ _ _ _ _ st h => by obtain ⟨⟨old, he⟩, _⟩ := st; exact wpAny_pyIter_enum he h
end L2
set_option maxHeartbeats 4000000
namespace L2
open PySem PySem.Spec PyProof.Rows
theorem call_enum_tup {prog : Program} {w : World} {A : Around} {E : Value → Shared → Prop} {s : Shared} {l : Addr} {items : Array Value} {Q : Value → Shared → Prop} (hL : IsTup s.heap l items)
 (h : ∀ g, IsEnum g (s.heap.objs.size + 1) s.heap.objs.size 0 .none → g.IsTupleIter s.heap.objs.size l 0 → (∀ b o, s.heap.get? b = some o → g.get? b = some o) → Q (.ref (s.heap.objs.size + 1)) { s with heap := g }) :
 wpAny (model prog w) A (call (.type "enumerate") [.ref l]) Q E s := by
 obtain ⟨⟨cls, dd, data, sl⟩, ho, hc, n, hd⟩ := id hL
 simp only at hc hd
 subst hc hd
 have hz : (s.heap.push { cls := .type "tuple_iterator", data := .fields #[.ref l, .int 0 0] }).objs.size = s.heap.objs.size + 1 := Heap.size_push ..
 refine callType_new F.called_enumerate (by decide) (F.typeCall_enumerate_1 _) (F.newCall_enumerate_1 _) (fun obj => F.args_object_init_2 obj _) F.entry_enumerate_new (enum_newT l items n dd sl) ⟨ho, ?_⟩
 show _ ∧ _
 rw [hz]
 have he : IsEnum ((s.heap.push { cls := .type "tuple_iterator", data := .fields #[.ref l, .int 0 0] }).push { cls := .type "enumerate", data := .fields #[.none, .bool false, .ref s.heap.objs.size, rawInt 0, .none, .none] }) (s.heap.objs.size + 1) s.heap.objs.size 0 .none := by
  have q := Heap.get?_push_size (s.heap.push { cls := .type "tuple_iterator", data := .fields #[.ref l, .int 0 0] }) (o := { cls := .type "enumerate", data := .fields #[.none, .bool false, .ref s.heap.objs.size, rawInt 0, .none, .none] }) rfl
  rw [hz] at q
  exact q
 exact ⟨⟨_, he, rfl⟩, h _ he ⟨_, Heap.get?_push_of_some _ (Heap.get?_push_size _ rfl), rfl, rfl⟩ fun b o x => Heap.get?_push_of_some _ (Heap.get?_push_of_some _ x)⟩
section
variable {X : Cx} {elts : List Expr} {x1 : Nat} {tpos : Pos}
def iEnT (K : PySem.W.Frag) (ta : TA) : TI := fun σ H R => ta σ H fun vs H1 => ∃ a xs, vs = [.ref a] ∧ SqT K H1 a xs ∧ R (Ite K a xs) H1
theorem pi_enumT {a : Expr} {ta : TA} {p pos : Pos} (hg : Gl X "enumerate") (hm : X.mg "enumerate" = none) (ha : PA X [a] ta) (hs : starEach [a] X.env = [(false, eval a X.env)] := by rfl) : PI X (.Tuple elts x1 tpos) (.Call (.Name "enumerate" p) [a] [] pos) (iEnT X.K ta) := by
 intro pins s σ H R I h
 refine Call_ (ld_blt I hg hm boot_enumerate (PyProof.Rows.callWith_type1 (thn (ha pos pins s σ H _ I h) fun us s1 ⟨vs, H1, I1, r1, q1⟩ => ?_) hs rfl))
 obtain ⟨a, xs, e, hq, q⟩ := q1
 subst e
 obtain ⟨u, rfl, ru⟩ := vals1 r1
 cases ru
 obtain ⟨its, rv, pt, hz⟩ := I1.tuple hq
 refine call_enum_tup pt fun g he hi kp => wpAny_pyIter_enum he ?_
 have I2 : Inv X pins σ H1 { s1 with heap := g } := I1.kept (t' := s1.toks) kp
 refine ⟨s1.heap.objs.size + 1, [s1.heap.objs.size + 1, s1.heap.objs.size], _, _, H1, rfl, I2, turn_enumT a _ s1.heap.objs.size xs, ⟨⟨_, he⟩, hi⟩, fun b hb => ?_, q⟩
 have hb' : s1.heap.objs.size ≤ b := by
  rcases List.mem_cons.mp hb with z | z
  ·rw [z]; exact Nat.le_succ _
  ·rw [List.mem_singleton.mp z]; exact Nat.le_refl _
 exact I1.fpOk hb' (I1.hok.fresh hb')
end
theorem turn_enumS {P : Program} {w : World} {K : PySem.W.Frag} {elts : List Expr} {x1 : Nat} {pos : Pos} (z : Str) (t : Tok) (e it : Addr) : Turn P w K (.Tuple elts x1 pos) (Ies z) [e, it] e (fun i h => (∃ old, IsEnum h e it i old) ∧ h.IsStrIter it (strIterType z) z t i) where
 mem := by simp
 obj := fun i h st b hb => by
  obtain ⟨⟨old, he⟩, o, ho, _, hd⟩ := st
  rcases List.mem_cons.mp hb with q | q
  ·subst q; exact ⟨_, he, fun v q => by cases q⟩
  ·rw [List.mem_singleton.mp q]; exact ⟨o, ho, fun v q => by rw [hd] at q; cases q⟩
 keep := fun i h h' st k => ⟨by obtain ⟨old, he⟩ := st.1; exact ⟨old, k e (by simp) _ he⟩, by obtain ⟨o, q, r⟩ := st.2; exact ⟨o, k it (by simp) o q, r⟩⟩
 item := by
  intro X hP hw hK hc i pins s σ H E I hf st hg
  subst hP hw hK
  have hlt : i < z.cps.size := hg
  obtain ⟨⟨old, he⟩, hit⟩ := st
  have hit0 := hit
  obtain ⟨oi, e1, e2, _⟩ := hit
  have nee : e ≠ it := ne_cls he e1 (by
   rw [e2]
   show Value.type "enumerate" ≠ _
   rcases strIter_cases z with q | q <;> rw [q] <;> decide +kernel)
  have fin : ∀ {Sv : Nat → Heap → Prop}, Draws X.prog X.w X.A.in1 it [it] z.cps.size (fun i v => ∃ c u, z.cps[i]? = some c ∧ v = .str ⟨#[c]⟩ u) Sv → Sv i s.heap → (∀ h, Sv (i + 1) h → h.IsStrIter it (strIterType z) z t (i + 1)) →
   wpAny (model X.prog X.w) X.A (pyNext (.ref e)) (fun r s1 => ∃ u, r = some u ∧ wpAny (model X.prog X.w) X.A (letOwnedTupleGo (.Tuple elts x1 pos) (.ref e) u) (fun _ s2 => ∃ x H', Inv X pins σ H' s2 ∧ RelV x u ∧ (Ies z).yld i H x H' ∧ ((∃ old, IsEnum s2.heap e it (((i + 1 : Nat)) : Int) old) ∧ s2.heap.IsStrIter it (strIterType z) z t (i + 1)) ∧ ∀ b ∈ [e, it], H' b = none) E s1) E s := by
   intro Sv D hst back
   refine thn (enum_step (Gx := fun x => ∃ c, x = .str ⟨#[c]⟩ ∧ z.cps[i]? = some c) I D he hst hlt nee (by simp [nee]) hf (fun u ⟨c, tk, hc, hu⟩ => ⟨.str ⟨#[c]⟩, ⟨tk, hu⟩, c, rfl, hc⟩)) fun r s1 ⟨u, hr, k⟩ => ⟨u, hr, thn k fun _ s2 ⟨x, q, z1, ⟨c, z2, z2'⟩, z3, z4, z5, z6, z7, z8⟩ => ?_⟩
   subst z2
   exact ⟨.ref q, _, z6, z1.symm ▸ rfl, ⟨q, c, rfl, z3, rfl, z2'⟩, ⟨z7, back _ z8⟩, fun b hb => by
    rcases List.mem_cons.mp hb with w | w
    ·rw [w, upd_ne z4]; exact (hf e (by simp)).1
    ·rw [List.mem_singleton.mp w, upd_ne z5]; exact (hf it (by simp)).1⟩
  rcases strIter_cases z with q | q
  ·rw [q] at hit0 ⊢
   rw [q] at fin
   exact fin (Draws.strAscii (A := X.A.in1) (I.ok.hd hc) it z t) hit0 fun h st => st
  ·rw [q] at hit0 ⊢
   rw [q] at fin
   exact fin (Draws.strWide (A := X.A.in1) (I.ok.hd hc) it z t) hit0 fun h st => st
 done := by
  intro X hP hw hK hc i pins s σ H E I hf st hg
  subst hP hw hK
  have hi : i = z.cps.size := hg
  subst hi
  obtain ⟨⟨old, he⟩, hit⟩ := st
  obtain ⟨g0, g1, g2, g3, g4, g5⟩ := hf it (by simp)
  rcases strIter_cases z with q | q
  ·rw [q] at hit
   exact wpAny_pyNext_enum_endD (Draws.strAscii (A := X.A.in1) (I.ok.hd hc) it z t) he hit fun h' eb => ⟨rfl, I.turned (t' := s.toks) (fun b o hb q => eb b o hb q) g0 g1 g3 g4 g5⟩
  ·rw [q] at hit
   exact wpAny_pyNext_enum_endD (Draws.strWide (A := X.A.in1) (I.ok.hd hc) it z t) he hit fun h' eb => ⟨rfl, I.turned (t' := s.toks) (fun b o hb q => eb b o hb q) g0 g1 g3 g4 g5⟩
 self := fun _ _ _ _ _ st h => by obtain ⟨⟨old, he⟩, _⟩ := st; exact wpAny_pyIter_enum he h
section
variable {X : Cx} {elts : List Expr} {x1 : Nat} {tpos : Pos}
def iEnS (ta : TA) : TI := fun σ H R => ta σ H fun vs H1 => ∃ z, vs = [.str z] ∧ R (Ies z) H1
theorem pi_enumS {a : Expr} {ta : TA} {p pos : Pos} (hg : Gl X "enumerate") (hm : X.mg "enumerate" = none) (ha : PA X [a] ta) (hs : starEach [a] X.env = [(false, eval a X.env)] := by rfl) : PI X (.Tuple elts x1 tpos) (.Call (.Name "enumerate" p) [a] [] pos) (iEnS ta) := by
 intro pins s σ H R I h
 refine Call_ (ld_blt I hg hm boot_enumerate (PyProof.Rows.callWith_type1 (thn (ha pos pins s σ H _ I h) fun us s1 ⟨vs, H1, I1, r1, q1⟩ => ?_) hs rfl))
 obtain ⟨z, e, q⟩ := q1
 subst e
 obtain ⟨u, rfl, t, rfl⟩ := vals1 r1
 refine call_enumerate_str fun g he hi hz kp => wpAny_pyIter_enum he ?_
 have I2 : Inv X pins σ H1 { s1 with heap := g } := I1.kept (t' := s1.toks) kp
 refine ⟨s1.heap.objs.size + 1, [s1.heap.objs.size + 1, s1.heap.objs.size], _, _, H1, rfl, I2, turn_enumS z t _ s1.heap.objs.size, ⟨⟨_, he⟩, hi⟩, fun b hb => ?_, q⟩
 have hb' : s1.heap.objs.size ≤ b := by
  rcases List.mem_cons.mp hb with z | z
  ·rw [z]; exact Nat.le_succ _
  ·rw [List.mem_singleton.mp z]; exact Nat.le_refl _
 exact I1.fpOk hb' (I1.hok.fresh hb')
end
end L2
set_option maxHeartbeats 4000000
namespace L2
open PySem PySem.Spec PyProof.Rows
def Itel (K : PySem.W.Frag) (a : Addr) (xs : List V) : It :=
 ⟨fun i H => SqL K H a xs ∧ i < xs.length, fun i H v H' => ∃ p x, v = .ref p ∧ H p = none ∧ H' = upd H p (.tup [.int (i : Nat), x]) ∧ xs[i]? = some x, fun i H => SqL K H a xs ∧ i = xs.length⟩
theorem turn_enumL {P : Program} {w : World} {K : PySem.W.Frag} {elts : List Expr} {x1 : Nat} {pos : Pos} (a e it : Addr) (xs : List V) : Turn P w K (.Tuple elts x1 pos) (Itel K a xs) [e, it] e (fun i h => (∃ old, IsEnum h e it i old) ∧ h.IsListIter it a i) where
 mem := by simp
 obj := fun i h st b hb => by
  obtain ⟨⟨old, he⟩, o, ho, _, hd⟩ := st
  rcases List.mem_cons.mp hb with z | z
  ·subst z; exact ⟨_, he, fun v q => by cases q⟩
  ·rw [List.mem_singleton.mp z]; exact ⟨o, ho, fun v q => by rw [hd] at q; cases q⟩
 keep := fun i h h' st k => ⟨by obtain ⟨old, he⟩ := st.1; exact ⟨old, k e (by simp) _ he⟩, st.2.at fun o q => k it (by simp) o q⟩
 item := by
  intro X hP hw hK hc i pins s σ H E I hf st hg
  subst hP hw hK
  obtain ⟨hq, hlt⟩ := hg
  obtain ⟨⟨old, he⟩, hit⟩ := st
  obtain ⟨its, rv, p, hz⟩ := I.list hq
  have hl := rv.length
  have hit0 := hit
  obtain ⟨oi, e1, e2, _⟩ := hit
  obtain ⟨oa, a1, a2, _⟩ := p.isList
  have nea : a ≠ it := ne_cls a1 e1 (by rw [a2, e2]; decide +kernel)
  have nee : e ≠ it := ne_cls he e1 (by rw [e2]; show Value.type "enumerate" ≠ _; decide +kernel)
  have neae : e ≠ a := ne_cls he a1 (by rw [a2]; show Value.type "enumerate" ≠ _; decide +kernel)
  refine thn (enum_step (Gx := fun x => xs[i]? = some x) I (Draws.list (A := X.A.in1) (I.ok.hd hc) it a nea its.toArray) he ⟨hit0, p.isList⟩ (by rw [List.size_toArray]; omega) nee (by simp [nee, neae]) hf (fun u hu => ?_)) fun r s1 ⟨u, hr, k⟩ => ⟨u, hr, thn k fun _ s2 ⟨x, q, z1, z2, z3, z4, z5, z6, z7, z8⟩ => ?_⟩
  ·have hxi : xs[i]? = some xs[i] := List.getElem?_eq_getElem hlt
   obtain ⟨u', hu', ru'⟩ := rv.get hxi
   have : its.toArray[i]? = some u' := by simpa using hu'
   have hu2 : its.toArray[i]? = some u := hu
   rw [this] at hu2
   cases hu2
   exact ⟨xs[i], ru', hxi⟩
  ·exact ⟨.ref q, _, z6, z1.symm ▸ rfl, ⟨q, x, rfl, z3, rfl, z2⟩, ⟨z7, z8.1⟩, fun b hb => by
    rcases List.mem_cons.mp hb with w | w
    ·rw [w, upd_ne z4]; exact (hf e (by simp)).1
    ·rw [List.mem_singleton.mp w, upd_ne z5]; exact (hf it (by simp)).1⟩
 done := by
  intro X hP hw hK hc i pins s σ H E I hf st hg
  subst hP hw hK
  obtain ⟨hq, rfl⟩ := hg
  obtain ⟨⟨old, he⟩, hit⟩ := st
  obtain ⟨its, rv, p, hz⟩ := I.list hq
  have hl := rv.length
  have hit0 := hit
  obtain ⟨oi, e1, e2, _⟩ := hit
  obtain ⟨oa, a1, a2, _⟩ := p.isList
  have nea : a ≠ it := ne_cls a1 e1 (by rw [a2, e2]; decide +kernel)
  obtain ⟨g0, g1, g2, g3, g4, g5⟩ := hf it (by simp)
  refine wpAny_pyNext_enum_endD (Draws.list (A := X.A.in1) (I.ok.hd hc) it a nea its.toArray) he ⟨by rw [List.size_toArray, ← hl]; exact hit0, p.isList⟩ fun h' eb => ⟨rfl, I.turned (t' := s.toks) (fun b o hb q => eb b o hb q) g0 g1 g3 g4 g5⟩
 self := fun _ _ _ _ _ st h => by obtain ⟨⟨old, he⟩, _⟩ := st; exact wpAny_pyIter_enum he h
section
variable {X : Cx} {elts : List Expr} {x1 : Nat} {tpos : Pos}
def iEnL (K : PySem.W.Frag) (ta : TA) : TI := fun σ H R => ta σ H fun vs H1 => ∃ a xs, vs = [.ref a] ∧ SqL K H1 a xs ∧ R (Itel K a xs) H1
theorem pi_enumL {a : Expr} {ta : TA} {p pos : Pos} (hg : Gl X "enumerate") (hm : X.mg "enumerate" = none) (ha : PA X [a] ta) (hs : starEach [a] X.env = [(false, eval a X.env)] := by rfl) : PI X (.Tuple elts x1 tpos) (.Call (.Name "enumerate" p) [a] [] pos) (iEnL X.K ta) := by
 intro pins s σ H R I h
 refine Call_ (ld_blt I hg hm boot_enumerate (PyProof.Rows.callWith_type1 (thn (ha pos pins s σ H _ I h) fun us s1 ⟨vs, H1, I1, r1, q1⟩ => ?_) hs rfl))
 obtain ⟨a, xs, e, hq, q⟩ := q1
 subst e
 obtain ⟨u, rfl, ru⟩ := vals1 r1
 cases ru
 obtain ⟨its, rv, pt, hz⟩ := I1.list hq
 refine call_enumerate_list pt.isList fun g he hi _ kp => wpAny_pyIter_enum he ?_
 have I2 : Inv X pins σ H1 { s1 with heap := g } := I1.kept (t' := s1.toks) kp
 refine ⟨s1.heap.objs.size + 1, [s1.heap.objs.size + 1, s1.heap.objs.size], _, _, H1, rfl, I2, turn_enumL a _ s1.heap.objs.size xs, ⟨⟨_, he⟩, hi⟩, fun b hb => ?_, q⟩
 have hb' : s1.heap.objs.size ≤ b := by
  rcases List.mem_cons.mp hb with z | z
  ·rw [z]; exact Nat.le_succ _
  ·rw [List.mem_singleton.mp z]; exact Nat.le_refl _
 exact I1.fpOk hb' (I1.hok.fresh hb')
end
end L2
set_option maxHeartbeats 4000000
namespace L2
open PySem PySem.Spec PyProof.Rows
section
variable {X : Cx} {pins : List (Addr × Obj)} {σ : St} {H : Hp} {s : Shared} {h' : Heap} {ch : List Addr}
theorem Inv.moved {tk : Nat} (I : Inv X pins σ H s) (hf : ∀ b ∈ ch, FpOk X pins H b) (kk : ∀ b o, b ∉ ch → s.heap.get? b = some o → h'.get? b = some o) : Inv X pins σ H { s with heap := h', toks := tk } := by
 have neH : ∀ b o, H b = some o → b ∉ ch := fun b o q z => by rw [(hf b z).1] at q; cases q
 refine I.step (g' := s.gens) (d' := s.drawn) (ch := ch) (fun b hb => ?_) (fun b o _ _ hc q _ => kk b o hc q) (fun b o _ _ hc q _ => ⟨o.slots, kk b o hc q⟩) (fun _ _ _ _ n => n)
  (fun b o hc q => ⟨o, kk b o hc q⟩) (fun b xs q => q) (fun b o u q => q) (fun b ps q => ⟨#[], by rw [q]; simp⟩) (fun m hm => ?_) (fun b o q => ?_) I.bare
 ·obtain ⟨f0, f1, f2, f3, f4, f5⟩ := hf b hb
  exact ⟨f3, f1, f4, f5⟩
 ·obtain ⟨o, es, ep, q, r⟩ := hm
  exact ⟨o, es, ep, kk _ o (fun z => (hf _ z).2.1 rfl) q, r⟩
 ·refine (I.hok b o q).stay (fun c v hc z => kk c v ?_ z) (fun c z => z) fun c xs z => z
  rcases hc with z' | z'
  ·rw [z']; exact neH b o q
  ·exact neH c _ z'
theorem Inv.movedPair {tk : Nat} {x y : V} {u v : Value} {ob : Obj} {n : Nat} (I : Inv X pins σ H s) (hf : ∀ b ∈ ch, FpOk X pins H b) (kk : ∀ b o, b ∉ ch → s.heap.get? b = some o → h'.get? b = some o)
 (hp : h'.get? s.heap.objs.size = some ob) (hc : ob.cls = .type "tuple") (hd : ob.data = .seq #[u, v] n) (rx : RelV x u) (ry : RelV y v) : Inv X pins σ (upd H s.heap.objs.size (.tup [x, y])) { s with heap := h', toks := tk } := by
 have neH : ∀ b o, H b = some o → b ∉ ch ∧ b ≠ s.heap.objs.size := fun b o q => ⟨(fun z => (by rw [(hf b z).1] at q; cases q)), Nat.ne_of_lt (I.hok.lt q)⟩
 refine I.step (g' := s.gens) (d' := s.drawn) (ch := ch) (fun b hb => ?_) (fun b o _ _ hc q _ => kk b o hc q) (fun b o _ _ hc q _ => ⟨o.slots, kk b o hc q⟩) (fun b o _ q nb => by rw [upd_ne (Nat.ne_of_lt (Heap.lt_size q))]; exact nb)
  (fun b o hc q => ⟨o, kk b o hc q⟩) (fun b xs q => by rw [upd_ne (neH b _ q).2]; exact q) (fun b o u q => by rw [upd_ne (neH b _ q).2]; exact q) (fun b ps q => ⟨#[], by rw [upd_ne (neH b _ q).2, q]; simp⟩) (fun m hm => ?_) (fun b o q => ?_) I.bare
 ·obtain ⟨f0, f1, f2, f3, f4, f5⟩ := hf b hb
  exact ⟨f3, f1, f4, f5⟩
 ·obtain ⟨o, es, ep, q, r⟩ := hm
  exact ⟨o, es, ep, kk _ o (fun z => (hf _ z).2.1 rfl) q, r⟩
 ·by_cases hb : b = s.heap.objs.size
  ·subst hb
   rw [upd_same] at q
   cases q
   exact ⟨(show 2 ≤ sizeLine by decide), [u, v], .cons rx (.cons ry .nil), ⟨_, hp, hc, _, hd⟩⟩
  ·rw [upd_ne hb] at q
   refine (I.hok b o q).stay (fun c v hc z => kk c v ?_ z) (fun c z => by rw [upd_ne (neH c _ z).2]; exact z) fun c xs z => by rw [upd_ne (neH c _ z).2]; exact z
   rcases hc with z' | z'
   ·rw [z']; exact (neH b o q).1
   ·exact (neH c _ z').1
end
def Itz (K : PySem.W.Frag) (a b : Addr) (xs ys : List V) : It :=
 ⟨fun i H => SqL K H a xs ∧ SqL K H b ys ∧ i < xs.length ∧ i < ys.length, fun i H v H' => ∃ p x y, v = .ref p ∧ H p = none ∧ H' = upd H p (.tup [x, y]) ∧ xs[i]? = some x ∧ ys[i]? = some y,
  fun i H => SqL K H a xs ∧ SqL K H b ys ∧ (xs.length ≤ i ∨ ys.length ≤ i)⟩
theorem turn_zip {P : Program} {w : World} {K : PySem.W.Frag} {elts : List Expr} {x1 : Nat} {pos : Pos} (a b z TI TO i1 i2 : Addr) (xs ys : List V) (hTT : TI ≠ TO) (h12 : i1 ≠ i2) :
 Turn P w K (.Tuple elts x1 pos) (Itz K a b xs ys) [z, TI, TO, i1, i2] z (fun i h => IsZip h z TI TO .none ∧ IsPair h TI (.ref i1) (.ref i2) ∧ (∃ c d, IsPair h TO c d) ∧ h.IsListIter i1 a i ∧ h.IsListIter i2 b i) where
 mem := by simp
 obj := fun i h st c hc => by
  obtain ⟨q1, q2, ⟨_, _, q3⟩, ⟨o4, q4, _, d4⟩, ⟨o5, q5, _, d5⟩⟩ := st
  simp only [List.mem_cons, List.mem_nil_iff, or_false] at hc
  rcases hc with e | e | e | e | e <;> subst e
  ·exact ⟨_, q1, fun v q => by cases q⟩
  ·exact ⟨_, q2, fun v q => by cases q⟩
  ·exact ⟨_, q3, fun v q => by cases q⟩
  ·exact ⟨_, q4, fun v q => by rw [d4] at q; cases q⟩
  ·exact ⟨_, q5, fun v q => by rw [d5] at q; cases q⟩
 keep := fun i h h' st k => by
  obtain ⟨q1, q2, ⟨c, d, q3⟩, ⟨o4, q4, r4⟩, ⟨o5, q5, r5⟩⟩ := st
  exact ⟨k z (by simp) _ q1, k TI (by simp) _ q2, ⟨c, d, k TO (by simp) _ q3⟩, ⟨o4, k i1 (by simp) _ q4, r4⟩, ⟨o5, k i2 (by simp) _ q5, r5⟩⟩
 item := by
  intro X hP hw hK hc i pins s σ H E I hf st hg
  subst hP hw hK
  obtain ⟨ha, hb, l1, l2⟩ := hg
  obtain ⟨its1, rv1, p1, _⟩ := I.list ha
  obtain ⟨its2, rv2, p2, _⟩ := I.list hb
  have apart : ZipApart z TI TO i1 i2 a b := by
   obtain ⟨q1, q2, ⟨_, _, q3⟩, ⟨o4, q4, c4, _⟩, ⟨o5, q5, c5, _⟩⟩ := st
   obtain ⟨o6, q6, c6, _⟩ := p1.isList
   obtain ⟨o7, q7, c7, _⟩ := p2.isList
   refine ⟨ne_cls q2 q1 ?_, ne_cls q3 q1 ?_, ne_cls q4 q1 ?_, ne_cls q5 q1 ?_, hTT, ne_cls q2 q4 ?_, ne_cls q2 q5 ?_, ne_cls q3 q4 ?_, ne_cls q3 q5 ?_, h12, ne_cls q6 q1 ?_, ne_cls q6 q3 ?_, ne_cls q6 q4 ?_, ne_cls q6 q5 ?_, ne_cls q7 q1 ?_, ne_cls q7 q3 ?_, ne_cls q7 q4 ?_, ne_cls q7 q5 ?_⟩
   all_goals (try rw [c4]); (try rw [c5]); (try rw [c6]); (try rw [c7])
   all_goals (first | (show Value.type "tuple" ≠ Value.type "zip"; decide +kernel) | (show Value.type "list_iterator" ≠ Value.type "zip"; decide +kernel) | (show Value.type "tuple" ≠ Value.type "list_iterator"; decide +kernel) | (show Value.type "list" ≠ Value.type "zip"; decide +kernel) | (show Value.type "list" ≠ Value.type "tuple"; decide +kernel) | (show Value.type "list" ≠ Value.type "list_iterator"; decide +kernel))
  obtain ⟨q1, q2, ⟨c, d, q3⟩, q4, q5⟩ := st
  obtain ⟨u, hu, ru⟩ := rv1.get (List.getElem?_eq_getElem l1)
  obtain ⟨v, hv, rv⟩ := rv2.get (List.getElem?_eq_getElem l2)
  have hnew : H s.heap.objs.size = none := I.hok.fresh (Nat.le_refl _)
  have nz : z ≠ s.heap.objs.size := Nat.ne_of_lt (Heap.lt_size q1)
  refine wpAny_pyNext_zip_item apart q1 q2 q3 q4 q5 p1.isList p2.isList (x := u) (y := v) (by simpa using hu) (by simpa using hv) fun h' a1 a2 a3 a4 a5 a6 kk => ?_
  have fz := hf z (by simp)
  have hf4 : ∀ b ∈ [z, TO, i1, i2], FpOk X pins H b := fun b hb => hf b (by simp only [List.mem_cons, List.mem_nil_iff, or_false] at hb ⊢; rcases hb with e | e | e | e <;> simp [e])
  have I1 := Inv.movedPair (tk := s.toks) (x := xs[i]) (y := ys[i]) I hf4 (fun b o hb q => kk b o (fun e => hb (by simp [e])) (fun e => hb (by simp [e])) (fun e => hb (by simp [e])) (fun e => hb (by simp [e])) q) a5 rfl rfl ru rv
  refine ⟨_, rfl, wpAny_letOwnedTupleGo_zip a1 fun h2 hz2 sb => ?_⟩
  obtain ⟨f0, f1, f2, f3, f4, f5⟩ := fz
  refine ⟨.ref s.heap.objs.size, _, I1.turned (t' := s.toks) (it := z) (fun b o hb q => sb.extBut b o hb q) (by rw [upd_ne nz]; exact f0) f1 f3 f4 f5, rfl, ⟨_, _, _, rfl, hnew, rfl, List.getElem?_eq_getElem l1, List.getElem?_eq_getElem l2⟩, ?_, fun b hb => ?_⟩
  ·exact ⟨hz2, sb.extBut _ _ apart.TIz (kk _ _ apart.TIz apart.TITO apart.TIi1 apart.TIi2 q2), ⟨_, _, sb.extBut _ _ apart.TOz a2⟩, a3.extBut sb.extBut apart.i1z, a4.extBut sb.extBut apart.i2z⟩
  ·have hl : b < s.heap.objs.size := by
    obtain ⟨o4, r4, _⟩ := q4
    obtain ⟨o5, r5, _⟩ := q5
    simp only [List.mem_cons, List.mem_nil_iff, or_false] at hb
    rcases hb with e | e | e | e | e <;> subst e
    ·exact Heap.lt_size q1
    ·exact Heap.lt_size q2
    ·exact Heap.lt_size q3
    ·exact Heap.lt_size r4
    ·exact Heap.lt_size r5
   rw [upd_ne (Nat.ne_of_lt hl)]
   exact (hf b hb).1
 done := by
  intro X hP hw hK hc i pins s σ H E I hf st hg
  subst hP hw hK
  obtain ⟨ha, hb, hl⟩ := hg
  obtain ⟨its1, rv1, p1, _⟩ := I.list ha
  obtain ⟨its2, rv2, p2, _⟩ := I.list hb
  have e1 := rv1.length
  have e2 := rv2.length
  have apart : ZipApart z TI TO i1 i2 a b := by
   obtain ⟨q1, q2, ⟨_, _, q3⟩, ⟨o4, q4, c4, _⟩, ⟨o5, q5, c5, _⟩⟩ := st
   obtain ⟨o6, q6, c6, _⟩ := p1.isList
   obtain ⟨o7, q7, c7, _⟩ := p2.isList
   refine ⟨ne_cls q2 q1 ?_, ne_cls q3 q1 ?_, ne_cls q4 q1 ?_, ne_cls q5 q1 ?_, hTT, ne_cls q2 q4 ?_, ne_cls q2 q5 ?_, ne_cls q3 q4 ?_, ne_cls q3 q5 ?_, h12, ne_cls q6 q1 ?_, ne_cls q6 q3 ?_, ne_cls q6 q4 ?_, ne_cls q6 q5 ?_, ne_cls q7 q1 ?_, ne_cls q7 q3 ?_, ne_cls q7 q4 ?_, ne_cls q7 q5 ?_⟩
   all_goals (try rw [c4]); (try rw [c5]); (try rw [c6]); (try rw [c7])
   all_goals (first | (show Value.type "tuple" ≠ Value.type "zip"; decide +kernel) | (show Value.type "list_iterator" ≠ Value.type "zip"; decide +kernel) | (show Value.type "tuple" ≠ Value.type "list_iterator"; decide +kernel) | (show Value.type "list" ≠ Value.type "zip"; decide +kernel) | (show Value.type "list" ≠ Value.type "tuple"; decide +kernel) | (show Value.type "list" ≠ Value.type "list_iterator"; decide +kernel))
  obtain ⟨q1, q2, ⟨c, d, q3⟩, q4, q5⟩ := st
  have hf4 : ∀ b ∈ [z, TO, i1, i2], FpOk X pins H b := fun b hb => hf b (by simp only [List.mem_cons, List.mem_nil_iff, or_false] at hb ⊢; rcases hb with e | e | e | e <;> simp [e])
  refine wpAny_pyNext_zip_end (I.ok.hd hc) apart q1 q2 q3 q4 q5 p1.isList p2.isList ?_ fun h' kk => ⟨rfl, Inv.moved (tk := s.toks) I hf4 fun b o hb q => kk b o (fun e => hb (by simp [e])) (fun e => hb (by simp [e])) (fun e => hb (by simp [e])) (fun e => hb (by simp [e])) q⟩
  rcases hl with e | e
  ·exact .inl (by simp; omega)
  ·exact .inr (by simp; omega)
 self := fun _ _ _ _ _ st h => wpAny_pyIter_zip st.1 h
section
variable {X : Cx} {elts : List Expr} {x1 : Nat} {tpos : Pos}
def iZip (K : PySem.W.Frag) (ta : TA) : TI := fun σ H R => ta σ H fun vs H1 => ∃ a b xs ys, vs = [.ref a, .ref b] ∧ SqL K H1 a xs ∧ SqL K H1 b ys ∧ R (Itz K a b xs ys) H1
theorem pi_zip {a b : Expr} {ta : TA} {p pos : Pos} (hg : Gl X "zip") (hm : X.mg "zip" = none) (ha : PA X [a, b] ta) (hs : starEach [a, b] X.env = [(false, eval a X.env), (false, eval b X.env)] := by rfl) (hs2 : starEach [b] X.env = [(false, eval b X.env)] := by rfl) :
 PI X (.Tuple elts x1 tpos) (.Call (.Name "zip" p) [a, b] [] pos) (iZip X.K ta) := by
 intro pins s σ H R I h
 refine Call_ (ld_blt I hg hm (show bootBuiltins "zip" = some (.type "zip") by decide +kernel) (PyProof.Rows.callWith_type1 (thn (ha pos pins s σ H _ I h) fun us s1 ⟨vs, H1, I1, r1, q1⟩ => ?_) (by rw [hs, hs2]) (by rw [hs2]; rfl)))
 obtain ⟨l1, l2, xs, ys, e, hq1, hq2, q⟩ := q1
 subst e
 obtain ⟨u, u2, rfl, ru, ru2⟩ := vals2 r1
 cases ru
 cases ru2
 obtain ⟨its1, rv1, p1, _⟩ := I1.list hq1
 obtain ⟨its2, rv2, p2, _⟩ := I1.list hq2
 refine call_zip_2 p1.isList p2.isList fun g a1 a2 a3 a4 a5 a6 kk => wpAny_pyIter_zip a1 ?_
 have I2 : Inv X pins σ H1 { s1 with heap := g } := I1.kept (t' := s1.toks) kk
 refine ⟨_, _, _, _, H1, rfl, I2, turn_zip l1 l2 (s1.heap.objs.size + 4) (s1.heap.objs.size + 2) (s1.heap.objs.size + 3) s1.heap.objs.size (s1.heap.objs.size + 1) xs ys (Nat.ne_of_lt (Nat.lt_succ_self _)) (Nat.ne_of_lt (Nat.lt_succ_self _)), ⟨a1, a2, ⟨_, _, a3⟩, a4, a5⟩, fun b hb => ?_, q⟩
 have hb' : s1.heap.objs.size ≤ b := by
  simp only [List.mem_cons, List.mem_nil_iff, or_false] at hb
  rcases hb with e | e | e | e | e <;> (rw [e]; first | exact Nat.le_refl _ | exact Nat.le_add_right _ _)
 exact I1.fpOk hb' (I1.hok.fresh hb')
end
end L2
set_option maxHeartbeats 4000000
namespace Ci
open PySem L2
structure Pg where
 gs : List (Str × PV)
 bs : List Str
 cs : List Str
 fs : List Str
 rs : List Str
def locB (sc : Scope) (x : Str) : Bool := sc.names.lookup x == some .local || sc.names.lookup x == some .cell
def visB (sc : Scope) (x : Str) : Bool := locB sc x || sc.names.lookup x == some .free
def glB (sc : Scope) (x : Str) : Bool := sc.names.lookup x == some .globalImplicit
def okN (x : Str) : Bool := !(x == "__debug__") && !(x == "__classdict__") && !(x == "__name__")
def litS : List PV → List PV → Bool
 | [], [] => true
 | .str x :: xs, .str y :: ys => x == y && litS xs ys
 | _, _ => false
def litEq : PV → PV → Bool
 | .int i, .int j => i == j
 | .str x, .str y => x == y
 | .tup xs, .tup ys => litS xs ys
 | _, _ => false
theorem litS_eq : ∀ {xs ys : List PV}, litS xs ys = true → xs = ys
 | [], [], _ => rfl
 | .str x :: xs, .str y :: ys, h => by
  unfold litS at h
  rw [Bool.and_eq_true] at h
  rw [beq_iff_eq.mp h.1, litS_eq h.2]
theorem litEq_eq {p q : PV} (h : litEq p q = true) : p = q := by
 unfold litEq at h
 split at h
 ·rw [beq_iff_eq.mp h]
 ·rw [beq_iff_eq.mp h]
 ·rw [litS_eq h]
 ·cases h
def bN : B → Str
 | .len => "len" | .abs => "abs" | .max2 => "max" | .min2 => "min" | .int => "int" | .str => "str" | .list => "list" | .tuple => "tuple" | .all => "all" | .sum => "sum"
def mN : M → Str
 | .countS => "count" | .countL => "count" | .index => "index" | .join => "join"
def esc : E → Bool
 | .tmp _ => false
 | _ => true
def escs : Es → Bool
 | .nil => true
 | .cons e es => esc e && escs es
def escI : I → Bool
 | .seq e => esc e
 | .rng _ => true
 | .rng2 _ _ => true
 | .enum e => esc e
 | .zip a b => esc a && esc b
def isNil : Es → Bool
 | .nil => true
 | _ => false
def lenEs : Es → Nat
 | .nil => 0
 | .cons _ es => lenEs es + 1
def chkTg (N : List Str) (sc : Scope) (fn : Bool) : Tg → Expr → Bool
 | .one i, .Name x _ => N[i]? == some x && locB sc x && (fn || sc.names.lookup x == some .local)
 | .two i j, .Tuple [.Name x _, .Name y _] _ _ => N[i]? == some x && locB sc x && (fn || sc.names.lookup x == some .local) && (N[j]? == some y && locB sc y && (fn || sc.names.lookup y == some .local))
 | .three i j k, .Tuple [.Name x _, .Name y _, .Name z _] _ _ => N[i]? == some x && locB sc x && (fn || sc.names.lookup x == some .local) && (N[j]? == some y && locB sc y && (fn || sc.names.lookup y == some .local)) && (N[k]? == some z && locB sc z && (fn || sc.names.lookup z == some .local))
 | _, _ => false
def tgNames : Expr → List Str
 | .Name x _ => [x]
 | .Tuple [.Name x _, .Name y _] _ _ => [x, y]
 | .Tuple [.Name x _, .Name y _, .Name z _] _ _ => [x, y, z]
 | _ => []
def relab (scope sc : Scope) : Scope :=
 { scope with names := scope.names.map fun (n, k) => if (k == .free && sc.kind == .function && sc.names.lookup n == some .cell) then (n, .cell) else (n, k) }
def freeOf (scope : Scope) : List Str := ((scope.names.filter fun p => p.2 == .free).map (·.1)).reverse
def compB (N : List Str) (sc scope : Scope) (k : Nat) (cap : List Nat) (xs : List Str) : Bool :=
 scope.kind == .function && xs.length == k && decide ((xs ++ freeOf scope).Nodup)
 && (scope.names.all fun y => decide (y.2 ≠ .cell) && (decide (y.2 ≠ .free) || (freeOf scope).contains y.1))
 && (scope.names.all fun y => decide (y.2 ≠ .local) || decide (scope.names.lookup y.1 = some .local))
 && decide (cap.map (fun i => N[i]?) = (freeOf scope).map some)
 && ((freeOf scope).all fun y => decide (sc.names.lookup y = some .cell))
 && ((freeOf scope).all fun y => decide ((relab scope sc).names.lookup y = some .cell))
def tgLt (k : Nat) : Tg → Bool
 | .one i => decide (i < k)
 | .two i j => decide (i < k) && decide (j < k)
 | .three i j l => decide (i < k) && decide (j < k) && decide (l < k)
def gtOk : E → Bool
 | .ite _ _ _ => false
 | .not a => gtOk a
 | .and a b => gtOk a && gtOk b
 | .or a b => gtOk a && gtOk b
 | _ => true
def isTup : Expr → Bool
 | .Tuple .. => true
 | _ => false
mutual
def chkE (Γ : Pg) (N : List Str) (sc : Scope) : E → Expr → Bool
 | .var i, .Name x _ => N[i]? == some x && visB sc x && okN x
 | .tmp i, .Name x _ => N[i]? == some x && visB sc x && okN x
 | .cst .non, .Constant .none _ _ => true
 | .cst (.bl b), .Constant (.bool c) _ _ => b == c
 | .cst (.int i), .Constant (.int j) _ _ => i == j
 | .cst (.str z), .Constant (.str y) _ _ => z == y
 | .glob g p, .Name x _ => g == x && glB sc x && okN x && Γ.gs.any fun q => q.1 == g && litEq q.2 p
 | .call f as, .Call (.Name g _) args [] _ => f == g && Γ.fs.contains g && glB sc g && okN g && escs as && chkEs Γ N sc as args
 | .blt b as, .Call (.Name g _) args [] _ => bN b == g && glB sc g && Γ.bs.contains g && !isNil as && chkEs Γ N sc as args
 | .ty t a, .Call (.Name g _) [pa, .Name tn _] [] _ => g == "isinstance" && glB sc g && Γ.bs.contains g && tn == Str.ofString (tyN t) && glB sc tn && Γ.bs.contains tn && chkE Γ N sc a pa
 | .isx c a, .Call (.Name g _) [pa, .Name cn _] [] _ => g == "isinstance" && glB sc g && Γ.bs.contains g && cn == c && glB sc cn && okN cn && (Γ.cs.contains c || (c == "ValueError" && Γ.bs.contains c)) && chkE Γ N sc a pa
 | .mth m o as, .Call (.Attribute po attr apos) args [] cpos => mN m == attr && !isNil as && decide (lenEs as < 30) && apos.endLine == cpos.line && chkE Γ N sc o po && chkEs Γ N sc as args && (match po with | .Call .. => false | _ => true)
 | .bin o a b, .BinOp pa op pb _ => decide (opB o = op) && chkE Γ N sc a pa && chkE Γ N sc b pb
 | .cmp o a b, .Compare pa [op] [pb] _ => decide (opC o = op) && chkE Γ N sc a pa && chkE Γ N sc b pb
 | .ch o1 o2 a b c, .Compare pa [op1, op2] [pb, pc] _ => decide (opC o1 = op1) && decide (opC o2 = op2) && chkE Γ N sc a pa && chkE Γ N sc b pb && chkE Γ N sc c pc
 | .not a, .UnaryOp .Not pa _ => chkE Γ N sc a pa
 | .neg a, .UnaryOp .USub pa _ => chkE Γ N sc a pa
 | .and a b, .BoolOp .And [pa, pb] _ => esc b && chkE Γ N sc a pa && chkE Γ N sc b pb
 | .and a b, .BoolOp .And (pa :: pb :: pc :: r) pos => esc b && chkE Γ N sc a pa && chkE Γ N sc b (.BoolOp .And (pb :: pc :: r) pos)
 | .or a b, .BoolOp .Or [pa, pb] _ => esc b && chkE Γ N sc a pa && chkE Γ N sc b pb
 | .or a b, .BoolOp .Or (pa :: pb :: pc :: r) pos => esc b && chkE Γ N sc a pa && chkE Γ N sc b (.BoolOp .Or (pb :: pc :: r) pos)
 | .ite c a b, .IfExp pc pa pb _ => gtOk c && esc a && esc b && chkE Γ N sc c pc && chkE Γ N sc a pa && chkE Γ N sc b pb
 | .tup as, .Tuple ps _ _ => escs as && decide (lenEs as < 1000) && chkEs Γ N sc as ps
 | .lst as, .List ps _ => escs as && decide (lenEs as < 1000) && chkEs Γ N sc as ps
 | .sub a b, .Subscript pa pb _ => chkE Γ N sc a pa && chkE Γ N sc b pb
 | .slice a lo hi, .Subscript pa (.Slice pl ph none _) _ => chkE Γ N sc a pa && chkO Γ N sc lo pl && chkO Γ N sc hi ph
 | .comp k cap tg it elt, .ListComp pelt [⟨ptg, pit, [], asy⟩] scope _ => compB N sc scope k cap (tgNames ptg) && tgLt k tg && esc elt && chkI Γ N sc ptg it pit && chkTg (tgNames ptg ++ freeOf scope) (relab scope sc) false tg ptg && chkE Γ (tgNames ptg ++ freeOf scope) (relab scope sc) elt pelt && decide (asy = 0)
 | .compIf k cap tg it c elt, .ListComp pelt [⟨ptg, pit, [pc], asy⟩] scope _ => gtOk c && compB N sc scope k cap (tgNames ptg) && tgLt k tg && esc elt && chkI Γ N sc ptg it pit && chkTg (tgNames ptg ++ freeOf scope) (relab scope sc) false tg ptg && chkE Γ (tgNames ptg ++ freeOf scope) (relab scope sc) c pc && chkE Γ (tgNames ptg ++ freeOf scope) (relab scope sc) elt pelt && decide (asy = 0)
 | _, _ => false
def chkEs (Γ : Pg) (N : List Str) (sc : Scope) : Es → List Expr → Bool
 | .nil, [] => true
 | .cons e es, p :: ps => chkE Γ N sc e p && chkEs Γ N sc es ps
 | _, _ => false
def chkO (Γ : Pg) (N : List Str) (sc : Scope) : Oe → Option Expr → Bool
 | .no, none => true
 | .some e, some p => chkE Γ N sc e p
 | _, _ => false
def chkI (Γ : Pg) (N : List Str) (sc : Scope) (tg : Expr) : I → Expr → Bool
 | .seq e, p => chkE Γ N sc e p
 | .rng e, .Call (.Name g _) [p] [] _ => g == "range" && glB sc g && Γ.bs.contains g && chkE Γ N sc e p
 | .rng2 a b, .Call (.Name g _) [p, q] [] _ => g == "range" && glB sc g && Γ.bs.contains g && chkE Γ N sc a p && chkE Γ N sc b q
 | .enum e, .Call (.Name g _) [p] [] _ => isTup tg && g == "enumerate" && glB sc g && Γ.bs.contains g && chkE Γ N sc e p
 | .zip a b, .Call (.Name g _) [p, q] [] _ => isTup tg && g == "zip" && glB sc g && Γ.bs.contains g && chkE Γ N sc a p && chkE Γ N sc b q
 | _, _ => false
end
theorem and_of {a b : Bool} (h : (a && b) = true) : a = true ∧ b = true := Bool.and_eq_true_iff.mp h
theorem opt_any_of {α : Type} {o : Option α} {f : α → Bool} (h : o.any f = true) : ∃ x, o = some x ∧ f x = true := by
 cases o with
 | none => cases h
 | some x => exact ⟨x, rfl, h⟩
end Ci
set_option maxHeartbeats 4000000
namespace Ci
open PySem L2
def XE (W : Wd) (c : Str) (G1 H1 : Hp) : XK := fun Cv ao H' => ∃ C a G', Cv = .ref C ∧ ao = some a ∧ c ∈ W.xs ∧ W.mg c = some (.ref C) ∧ Grow G1 H1 G' H'
def Rais (X : Cx) (W : Wd) (σ : St) (c : Str) (G H : Hp) : Prop := ∀ (pins : List (Addr × Obj)) (G1 H1 : Hp) (s1 : Shared) (e : Value) (s' : Shared), Inv X pins σ H1 s1 → Grow G H G1 H1 → CX1 X.prog X.w X.stack H1 s1 (XE W c G1 H1) e s' → X.xe e s'
def Out {α : Type} (X : Cx) (W : Wd) (r : Res α) (σ : St) (G H : Hp) (k : α → Prop) : Prop := match r with
 | .ok a => k a
 | .exc c => Rais X W σ c G H
 | .bad => False
section
variable {X : Cx} {W : Wd} {F : Fns} {σ : St} {G H G1 H1 : Hp} {α β : Type}
theorem Rais.grow {c : Str} (h : Rais X W σ c G H) (g : Grow G H G1 H1) : Rais X W σ c G1 H1 := fun pins G2 H2 s1 e s' I g2 x => h pins G2 H2 s1 e s' I (g.trans g2) x
theorem Out.grow {r : Res α} {k : α → Prop} (h : Out X W r σ G H k) (g : Grow G H G1 H1) : Out X W r σ G1 H1 k := by
 cases r with
 | ok a => exact h
 | exc c => exact Rais.grow h g
 | bad => exact h
theorem Out.imp {r : Res α} {k k' : α → Prop} (h : Out X W r σ G H k) (i : ∀ a, k a → k' a) : Out X W r σ G H k' := by
 cases r with
 | ok a => exact i a h
 | exc c => exact h
 | bad => exact h
theorem Out.bind {r : Res α} {f : α → Res β} {k : β → Prop} (h : Out X W (r.bind f) σ G H k) : Out X W r σ G H fun a => Out X W (f a) σ G H k := by
 cases r with
 | ok a => exact h
 | exc c => exact h
 | bad => exact h
theorem Out.val {r : Res α} {k : α → Prop} (h : Out X W r σ G H k) (n : ∀ c, r ≠ .exc c) : ∃ a, r = .ok a ∧ k a := by
 cases r with
 | ok a => exact ⟨a, rfl, h⟩
 | exc c => exact absurd rfl (n c)
 | bad => exact h.elim
structure Got (W : Wd) (H0 G H : Hp) (e : E) (p : PV) (v : V) : Prop where
 top : Top W H0 G H p v
 rep : esc e = true → Rep W G p v
theorem Got.of {H0 : Hp} {e : E} {p : PV} {v : V} (h : Rep W G p v) : Got W H0 G H e p v := ⟨.inl h, fun _ => h⟩
def tE (X : Cx) (W : Wd) (F : Fns) (e : E) : TE := fun σ H Q => ∃ H0 G env, SR W H0 env σ G H ∧ Out X W (evE F e env) σ G H fun p => ∀ v G' H', Grow G H G' H' → Got W H0 G' H' e p v → Q v H'
def tT (X : Cx) (W : Wd) (F : Fns) (e : E) : TT := fun σ H Q => ∃ H0 G env, SR W H0 env σ G H ∧ Out X W (evE F e env) σ G H fun p => ∃ b, p = .bl b ∧ ∀ G' H', Grow G H G' H' → Q b H'
structure GotL (W : Wd) (H0 G H : Hp) (es : Es) (ps : List PV) (vs : List V) : Prop where
 top : Paired (fun v p => Top W H0 G H p v) vs ps
 rep : escs es = true → RepL W G ps vs
def tA (X : Cx) (W : Wd) (F : Fns) (es : Es) : TA := fun σ H Q => ∃ H0 G env, SR W H0 env σ G H ∧ Out X W (evEs F es env) σ G H fun ps => ∀ vs G' H', Grow G H G' H' → GotL W H0 G' H' es ps vs → Q vs H'
def tOp_ (X : Cx) (W : Wd) (F : Fns) (o : Oe) : TO := fun σ H Q => ∃ H0 G env, SR W H0 env σ G H ∧ Out X W (evO F o env) σ G H fun i => ∀ G' H', Grow G H G' H' → Q i H'
theorem one {H0 : Hp} {env : Sl} {e : E} {f : PV → Res β} {k : β → Prop} {Q : VK} (sr : SR W H0 env σ G H) (o : Out X W ((evE F e env).bind f) σ G H k)
 (h : ∀ p v G1 H1, Grow G H G1 H1 → Got W H0 G1 H1 e p v → SR W H0 env σ G1 H1 → Out X W (f p) σ G1 H1 k → Q v H1) : tE X W F e σ H Q :=
 ⟨H0, G, env, sr, o.bind.imp fun p hp v G1 H1 g t => h p v G1 H1 g t (sr.grow g) (hp.grow g)⟩
theorem oneT {H0 : Hp} {env : Sl} {e : E} {f : Bool → Res β} {k : β → Prop} {Q : Bool → Hp → Prop} (sr : SR W H0 env σ G H) (o : Out X W ((evE F e env).bind fun p => asB p f) σ G H k)
 (h : ∀ b G1 H1, Grow G H G1 H1 → SR W H0 env σ G1 H1 → Out X W (f b) σ G1 H1 k → Q b H1) : tT X W F e σ H Q := by
 refine ⟨H0, G, env, sr, o.bind.imp fun p hp => ?_⟩
 cases p with
 | bl b => exact ⟨b, rfl, fun G1 H1 g => h b G1 H1 g (sr.grow g) (Out.grow hp g)⟩
 | non => exact False.elim hp
 | int _ => exact False.elim hp
 | str _ => exact False.elim hp
 | tup _ => exact False.elim hp
 | lst _ => exact False.elim hp
 | exc _ => exact False.elim hp
 | dct _ _ => exact False.elim hp
theorem args {H0 : Hp} {env : Sl} {es : Es} {f : List PV → Res β} {k : β → Prop} {Q : List V → Hp → Prop} (sr : SR W H0 env σ G H) (o : Out X W ((evEs F es env).bind f) σ G H k)
 (h : ∀ ps vs G1 H1, Grow G H G1 H1 → GotL W H0 G1 H1 es ps vs → SR W H0 env σ G1 H1 → Out X W (f ps) σ G1 H1 k → Q vs H1) : tA X W F es σ H Q :=
 ⟨H0, G, env, sr, o.bind.imp fun p hp v G1 H1 g t => h p v G1 H1 g t (sr.grow g) (hp.grow g)⟩
theorem Got.grow {H0 G2 H2 : Hp} {e : E} {p : PV} {v : V} (h : Got W H0 G H e p v) (g : Grow G H G2 H2) : Got W H0 G2 H2 e p v := ⟨h.top.grow g, fun z => Rep.same g.g p (h.rep z)⟩
structure CallOk (X : Cx) (W : Wd) (F : Fns) (k : Nat) (f : Str) : Prop where
 ex : ∃ fa fd ps, FnOk X.prog X.w X.K X.mg X.base (CX1 X.prog X.w) k fa fd ps (fun vs H Q E => vs.length = ps.length ∧ ∃ G as, Same G H ∧ RepL W G as vs ∧ (match F f as with
  | .ok p => ∀ v G' H', Grow G H G' H' → Rep W G' p v → Q v H'
  | .exc c => ∀ Cv ao H', XE W c G H Cv ao H' → E Cv ao H'
  | .bad => False)) ∧ X.mg f = some (.ref fa) ∧ PySem.W.keepIn X.K (.ref fa) = true ∧ Binds X.K fd ps [] ∧ ∀ as, F f as ≠ .bad → as.length = ps.length
structure CxI (Γ : Pg) (F : Fns) (W : Wd) (N : List Str) (sc : Scope) (k : Nat) (X : Cx) : Prop where
 hN : X.N = N
 hsc : X.env.scope = sc
 calm : X.calm = true
 nd : N.Nodup
 K : W.K = X.K
 mg : W.mg = X.mg
 gs : ∀ q ∈ Γ.gs, ∃ u v, X.mg q.1 = some u ∧ RelV v u ∧ ∀ G, Rep W G q.2 v
 bs : ∀ g ∈ Γ.bs, X.mg g = none
 room : Room k X.A
 fns : ∀ f, Γ.fs.contains f = true → CallOk X W F k f
 nov : Γ.cs.contains "ValueError" = false
 cls : ∀ c ∈ Γ.cs, ∃ C, X.mg c = some (.ref C)
 xc : ∀ d ∈ W.xs, ∀ D, X.mg d = some (.ref D) → XCls X.K D ∧ (∀ c ∈ Γ.cs, ∀ C, X.mg c = some (.ref C) → PySem.W.kitOne X.K (.ref D) (.ref C) = some (c == d || c == "FloorError")) ∧ PySem.W.kitOne X.K (.ref D) (.type "ValueError") = some true
end
end Ci
set_option maxHeartbeats 4000000
namespace Ci
open PySem L2
section
variable {Γ : Pg} {X : Cx} {W : Wd} {F : Fns} {N : List Str} {sc : Scope} {k : Nat}
theorem vis_of (C : CxI Γ F W N sc k X) {x : Str} (h : visB sc x = true) : Vis X.env.scope x := by
 rw [C.hsc]
 unfold visB locB at h
 simp only [Bool.or_eq_true, beq_iff_eq] at h
 rcases h with (h | h) | h
 ·exact .inl h
 ·exact .inr (.inl h)
 ·exact .inr (.inr h)
theorem gl_of (C : CxI Γ F W N sc k X) {x : Str} (h : glB sc x = true) : Gl X x := by
 show X.env.scope.names.lookup x = _
 rw [C.hsc]
 exact beq_iff_eq.mp h
theorem okN_d {x : Str} (h : okN x = true) : (x == ("__debug__" : Str)) = false ∧ (x == ("__classdict__" : Str)) = false ∧ x ≠ "__name__" := by
 unfold okN at h
 simp only [Bool.and_eq_true, Bool.not_eq_true', beq_eq_false_iff_ne] at h
 exact ⟨beq_eq_false_iff_ne.mpr h.1.1, beq_eq_false_iff_ne.mpr h.1.2, h.2⟩
abbrev GE (X : Cx) (W : Wd) (F : Fns) (e : E) (p : Expr) : Prop := PE X p (tE X W F e)
abbrev GT (X : Cx) (W : Wd) (F : Fns) (e : E) (p : Expr) : Prop := PT X p (tT X W F e)
abbrev GW (X : Cx) (W : Wd) (F : Fns) (e : E) (p : Expr) : Prop := PW X p (tT X W F e)
theorem _root_.L2.PE.imp {p : Expr} {t t' : TE} (h : PE X p t) (i : ∀ σ H Q, t' σ H Q → t σ H Q) : PE X p t' := fun pins s σ H Q I hw => h pins s σ H Q I (i σ H Q hw)
theorem _root_.L2.PT.imp {p : Expr} {t t' : TT} (h : PT X p t) (i : ∀ σ H Q, t' σ H Q → t σ H Q) : PT X p t' := fun pins s σ H Q I hw => h pins s σ H Q I (i σ H Q hw)
theorem _root_.L2.PW.imp {p : Expr} {t t' : TT} (h : PW X p t) (i : ∀ σ H Q, t' σ H Q → t σ H Q) : PW X p t' := fun w pins s σ H Q I hw => h w pins s σ H Q I (i σ H Q hw)
theorem _root_.L2.PA.imp {p : List Expr} {t t' : TA} (h : PA X p t) (i : ∀ σ H Q, t' σ H Q → t σ H Q) : PA X p t' := fun pos pins s σ H Q I hw => h pos pins s σ H Q I (i σ H Q hw)
theorem tB_of {e : E} (σ : St) (H : Hp) (Q : Bool → Hp → Prop) (h : tT X W F e σ H Q) : tB (tE X W F e) σ H Q := by
 obtain ⟨H0, G, env, sr, o⟩ := h
 refine ⟨H0, G, env, sr, o.imp fun p hp v G' H' g t => ?_⟩
 obtain ⟨b, rfl, q⟩ := hp
 exact ⟨b, t.top.bl, q G' H' g⟩
theorem tTest_of {e : E} (σ : St) (H : Hp) (Q : Bool → Hp → Prop) (h : tT X W F e σ H Q) : tTest (tE X W F e) σ H Q := tB_of σ H Q h
theorem ge_var (C : CxI Γ F W N sc k X) {i : Nat} {x : Str} {pos : Pos} (h : (N[i]? == some x && visB sc x && okN x) = true) : GE X W F (.var i) (.Name x pos) := by
 simp only [Bool.and_eq_true, beq_iff_eq] at h
 obtain ⟨h1, h2, h3⟩ := okN_d h.2
 refine (pe_var (i := i) (by rw [C.hN]; exact h.1.1) (vis_of C h.1.2) h1 h2).imp fun σ H Q hq => ?_
 obtain ⟨H0, G, env, sr, o⟩ := hq
 cases e : env[i]? with
 | none => unfold evE at o; rw [e] at o; exact o.elim
 | some sl =>
  cases sl with
  | no => unfold evE at o; rw [e] at o; exact o.elim
  | own p => unfold evE at o; rw [e] at o; exact o.elim
  | val p =>
   unfold evE at o
   rw [e] at o
   obtain ⟨o2, hs, v, rfl, r⟩ := sr.slot i _ e
   exact ⟨v, hs, o v G H (.refl sr.sub) (.of r)⟩
theorem ge_tmp (C : CxI Γ F W N sc k X) {i : Nat} {x : Str} {pos : Pos} (h : (N[i]? == some x && visB sc x && okN x) = true) : GE X W F (.tmp i) (.Name x pos) := by
 simp only [Bool.and_eq_true, beq_iff_eq] at h
 obtain ⟨h1, h2, h3⟩ := okN_d h.2
 refine (pe_var (i := i) (by rw [C.hN]; exact h.1.1) (vis_of C h.1.2) h1 h2).imp fun σ H Q hq => ?_
 obtain ⟨H0, G, env, sr, o⟩ := hq
 cases e : env[i]? with
 | none => unfold evE at o; rw [e] at o; exact o.elim
 | some sl =>
  cases sl with
  | no => unfold evE at o; rw [e] at o; exact o.elim
  | own p =>
   unfold evE at o
   rw [e] at o
   obtain ⟨o2, hs, v, rfl, r⟩ := sr.slot i _ e
   exact ⟨v, hs, o v G H (.refl sr.sub) ⟨.inr r, fun z => nomatch z⟩⟩
  | val p =>
   unfold evE at o
   rw [e] at o
   obtain ⟨o2, hs, v, rfl, r⟩ := sr.slot i _ e
   exact ⟨v, hs, o v G H (.refl sr.sub) (.of r)⟩
theorem ge_const {p : PV} {v : V} {e : Expr} (h : PE X e (tC v)) (r : ∀ G, Rep W G p v) : GE X W F (.cst p) e := by
 refine L2.PE.imp h fun σ H Q hq => ?_
 obtain ⟨H0, G, env, sr, o⟩ := hq
 exact o v G H (.refl sr.sub) (.of (r G))
theorem ge_glob (C : CxI Γ F W N sc k X) {g x : Str} {p : PV} {pos : Pos} (h : (g == x && glB sc x && okN x && Γ.gs.any fun q => q.1 == g && litEq q.2 p) = true) : GE X W F (.glob g p) (.Name x pos) := by
 simp only [Bool.and_eq_true, beq_iff_eq, List.any_eq_true] at h
 obtain ⟨⟨⟨rfl, h2⟩, h3⟩, q, hq, e1, e2⟩ := h
 obtain ⟨u, v, hm, rv, hr⟩ := C.gs q hq
 rw [e1] at hm
 cases litEq_eq e2
 refine (pe_glob (gl_of C h2) hm rv (okN_d h3).1).imp fun σ H Q hq => ?_
 obtain ⟨H0, G, env, sr, o⟩ := hq
 exact o v G H (.refl sr.sub) (.of (hr G))
theorem res_noexc_bin {o : Bop} {p q : PV} (c : Str) : binOp o p q ≠ .exc c := by
 unfold binOp
 repeat' split
 all_goals exact fun z => nomatch z
theorem Res.of_noexc {α : Type} {o : Option α} (c : Str) : Res.of o ≠ .exc c := by cases o <;> exact fun z => nomatch z
theorem res_noexc_cmp {o : Cop} {p q : PV} (c : Str) : cmpOp o p q ≠ .exc c := by
 cases o
 case eq => show opEq p q ≠ _; unfold opEq; split <;> exact fun z => nomatch z
 case ne => show opNe p q ≠ _; unfold opNe; split <;> exact fun z => nomatch z
 case lt =>
  show opLt p q ≠ _
  unfold opLt
  split
  ·exact fun z => nomatch z
  ·intro z
   rcases Res.bind_exc z with z | ⟨a, _, z⟩
   ·exact Res.of_noexc c z
   ·rcases Res.bind_exc z with z | ⟨a, _, z⟩
    ·exact Res.of_noexc c z
    ·cases z
  ·exact fun z => nomatch z
 case le => show opLe p q ≠ _; unfold opLe; split <;> exact fun z => nomatch z
 case gt => show opGt p q ≠ _; unfold opGt; split <;> exact fun z => nomatch z
 case ge => show opGe p q ≠ _; unfold opGe; split <;> exact fun z => nomatch z
 case is => show opIs p q ≠ _; unfold opIs; split <;> exact fun z => nomatch z
 case isn => show opIsn p q ≠ _; unfold opIsn; split <;> exact fun z => nomatch z
 case in_ => show opIn p q ≠ _; unfold opIn; split <;> (try split) <;> exact fun z => nomatch z
 case nin => show opNin p q ≠ _; unfold opNin; split <;> (try split) <;> exact fun z => nomatch z
theorem two {op : PV → PV → Res PV} {ea eb : E} {e : E} {σ : St} {H : Hp} {Q : VK} (hn : ∀ p q c, op p q ≠ .exc c) (he : ∀ env, evE F e env = (evE F ea env).bind fun x => (evE F eb env).bind fun y => op x y)
 (h : tE X W F e σ H Q) : tOp (Bin W op) (tE X W F ea) (tE X W F eb) σ H Q := by
 obtain ⟨H0, G, env, sr, o⟩ := h
 rw [he] at o
 refine one sr o fun p v G1 H1 g1 t1 sr1 o1 => one sr1 o1 fun q u G2 H2 g2 t2 sr2 o2 => ?_
 obtain ⟨r, hr, kr⟩ := o2.val (hn p q)
 exact ⟨H0, G2, p, q, r, sr2.sub, t1.top.grow g2, t2.top, hr, fun w G' H' g' rw' => kr w G' H' ((g1.trans g2).trans g') (.of rw')⟩
theorem ge_bin (C : CxI Γ F W N sc k X) {o : Bop} {a b : E} {pa pb : Expr} {pos : Pos} (ha : GE X W F a pa) (hb : GE X W F b pb) : GE X W F (.bin o a b) (.BinOp pa (opB o) pb pos) :=
 (pe_op (op_bin C.K o) ha hb).imp fun σ H Q h => two (fun p q c => res_noexc_bin c) (fun env => by rw [evE]) h
theorem ge_cmp (C : CxI Γ F W N sc k X) {o : Cop} {a b : E} {pa pb : Expr} {pos : Pos} (ha : GE X W F a pa) (hb : GE X W F b pb) (hm : behindInMarks (opC o) pb = false) : GE X W F (.cmp o a b) (.Compare pa [opC o] [pb] pos) :=
 (pe_cmpR (op_cmpP C.K C.room.units o) ha hb hm).imp fun σ H Q h => two (fun p q c => res_noexc_cmp c) (fun env => by rw [evE]) h
theorem gt_cmp (C : CxI Γ F W N sc k X) {o : Cop} {a b : E} {pa pb : Expr} {pos : Pos} (ha : GE X W F a pa) (hb : GE X W F b pb) (hm : behindInMarks (opC o) pb = false) : GT X W F (.cmp o a b) (.Compare pa [opC o] [pb] pos) :=
 (pt_cmpR (op_cmpP C.K C.room.units o) ha hb hm).imp fun σ H Q h => by
  have h2 := tTest_of σ H Q h
  exact two (fun p q c => res_noexc_cmp c) (fun env => by rw [evE]) h2
theorem ch_of {c1 c2 : Cop} {a b c : E} (σ : St) (H : Hp) (Q : VK) (h : tE X W F (.ch c1 c2 a b c) σ H Q) : tChain (Bin W (cmpOp c1)) (Bin W (cmpOp c2)) (tE X W F a) (tE X W F b) (tE X W F c) σ H Q := by
 obtain ⟨H0, G, env, sr, o⟩ := h
 rw [evE] at o
 refine one sr o fun p v G1 H1 g1 t1 sr1 o1 => one sr1 o1 fun q u G2 H2 g2 t2 sr2 o2 => ?_
 obtain ⟨r, hr, kr⟩ := o2.bind.val (res_noexc_cmp)
 refine ⟨H0, G2, p, q, r, sr2.sub, t1.top.grow g2, t2.top, hr, fun w G3 H3 g3 rw' => ?_⟩
 cases r with
 | bl t =>
  simp only [Rep] at rw'
  subst rw'
  refine ⟨t, rfl, ?_⟩
  cases t with
  | false =>
   rw [if_neg Bool.false_ne_true]
   have kr' : Out X W (Res.ok (PV.bl false)) σ G2 H2 _ := kr
   exact kr' _ G3 H3 ((g1.trans g2).trans g3) (.of .b)
  | true =>
   rw [if_pos rfl]
   have kr' : Out X W ((evE F c env).bind fun z => cmpOp c2 q z) σ G2 H2 _ := kr
   refine one (sr2.grow g3) (kr'.grow g3) fun z y G4 H4 g4 t4 sr4 o4 => ?_
   obtain ⟨r4, hr4, kr4⟩ := o4.val (res_noexc_cmp)
   exact ⟨H0, G4, q, z, r4, sr4.sub, t2.top.grow (g3.trans g4), t4.top, hr4, fun w G5 H5 g5 rw5 => kr4 w G5 H5 ((((g1.trans g2).trans g3).trans g4).trans g5) (.of rw5)⟩
 | non => exact False.elim kr
 | int _ => exact False.elim kr
 | str _ => exact False.elim kr
 | tup _ => exact False.elim kr
 | lst _ => exact False.elim kr
 | exc _ => exact False.elim kr
 | dct _ _ => exact False.elim kr
theorem ge_ch (C : CxI Γ F W N sc k X) {o1 o2 : Cop} {a b c : E} {pa pb pc : Expr} {pos : Pos} (ha : GE X W F a pa) (hb : GE X W F b pb) (hc : GE X W F c pc) (hm : lastMarks [opC o1, opC o2] [pb, pc] = false) : GE X W F (.ch o1 o2 a b c) (.Compare pa [opC o1, opC o2] [pb, pc] pos) :=
 (pe_chain (op_cmpP C.K C.room.units o1) (op_cmpP C.K C.room.units o2) ha hb hc hm).imp ch_of
theorem gt_ch (C : CxI Γ F W N sc k X) {o1 o2 : Cop} {a b c : E} {pa pb pc : Expr} {pos : Pos} (ha : GE X W F a pa) (hb : GE X W F b pb) (hc : GE X W F c pc) (hm : lastMarks [opC o1, opC o2] [pb, pc] = false) : GT X W F (.ch o1 o2 a b c) (.Compare pa [opC o1, opC o2] [pb, pc] pos) :=
 (pt_chain (op_cmpP C.K C.room.units o1) (op_cmpP C.K C.room.units o2) ha hb hc hm).imp fun σ H Q h => ch_of σ H _ (tTest_of σ H Q h)
theorem ge_neg {a : E} {pa : Expr} {pos : Pos} (ha : GE X W F a pa) : GE X W F (.neg a) (.UnaryOp .USub pa pos) :=
 (pe_un (un_negP (W := W)) ha).imp fun σ H Q h => by
  obtain ⟨H0, G, env, sr, o⟩ := h
  rw [evE] at o
  refine one sr o fun p v G1 H1 g1 t1 sr1 o1 => ?_
  cases p with
  | int i => exact ⟨H0, G1, i, sr1.sub, t1.top, fun w G' H' g' rw' => o1 w G' H' (g1.trans g') (.of rw')⟩
  | bl _ => exact False.elim o1
  | non => exact False.elim o1
  | str _ => exact False.elim o1
  | tup _ => exact False.elim o1
  | lst _ => exact False.elim o1
  | exc _ => exact False.elim o1
  | dct _ _ => exact False.elim o1
theorem ge_not {a : E} {pa : Expr} {pos : Pos} (ha : GE X W F a pa) : GE X W F (.not a) (.UnaryOp .Not pa pos) :=
 (pe_not ha).imp fun σ H Q h => by
  obtain ⟨H0, G, env, sr, o⟩ := h
  rw [evE] at o
  refine one sr o fun p v G1 H1 g1 t1 sr1 o1 => ?_
  cases p with
  | bl b => exact ⟨b, t1.top.bl, o1 _ G1 H1 g1 (.of .b)⟩
  | int _ => exact False.elim o1
  | non => exact False.elim o1
  | str _ => exact False.elim o1
  | tup _ => exact False.elim o1
  | lst _ => exact False.elim o1
  | exc _ => exact False.elim o1
  | dct _ _ => exact False.elim o1
theorem gt_not {a : E} {pa : Expr} {pos : Pos} (ha : GT X W F a pa) : GT X W F (.not a) (.UnaryOp .Not pa pos) :=
 (pt_not ha).imp fun σ H Q h => by
  obtain ⟨H0, G, env, sr, o⟩ := h
  rw [evE] at o
  refine oneT sr o fun b G1 H1 g1 sr1 o1 => ?_
  obtain ⟨b', e, q⟩ := o1
  cases e
  exact q G1 H1 g1
theorem ge_and {a b : E} {pa pb : Expr} {r : List Expr} {pos : Pos} (he : esc b = true) (ha : GE X W F a pa) (hb : GE X W F b (.BoolOp .And (pb :: r) pos)) : GE X W F (.and a b) (.BoolOp .And (pa :: pb :: r) pos) :=
 (pe_and ha hb).imp fun σ H Q h => by
  obtain ⟨H0, G, env, sr, o⟩ := h
  rw [evE] at o
  refine one sr o fun p v G1 H1 g1 t1 sr1 o1 => ?_
  cases p with
  | bl t =>
   refine ⟨t, t1.top.bl, ?_⟩
   cases t with
   | true =>
    rw [if_pos rfl]
    have o1' : Out X W (evE F b env) σ G1 H1 _ := o1
    exact ⟨H0, G1, env, sr1, o1'.imp fun p hp v G' H' g' t' => hp v G' H' (g1.trans g') (.of (t'.rep he))⟩
   | false =>
    rw [if_neg Bool.false_ne_true]
    have o1' : Out X W (Res.ok (PV.bl false)) σ G1 H1 _ := o1
    exact o1' _ G1 H1 g1 (.of .b)
  | int _ => exact False.elim o1
  | non => exact False.elim o1
  | str _ => exact False.elim o1
  | tup _ => exact False.elim o1
  | lst _ => exact False.elim o1
  | exc _ => exact False.elim o1
  | dct _ _ => exact False.elim o1
theorem ge_or {a b : E} {pa pb : Expr} {r : List Expr} {pos : Pos} (he : esc b = true) (ha : GE X W F a pa) (hb : GE X W F b (.BoolOp .Or (pb :: r) pos)) : GE X W F (.or a b) (.BoolOp .Or (pa :: pb :: r) pos) :=
 (pe_or ha hb).imp fun σ H Q h => by
  obtain ⟨H0, G, env, sr, o⟩ := h
  rw [evE] at o
  refine one sr o fun p v G1 H1 g1 t1 sr1 o1 => ?_
  cases p with
  | bl t =>
   refine ⟨t, t1.top.bl, ?_⟩
   cases t with
   | false =>
    rw [if_neg Bool.false_ne_true]
    have o1' : Out X W (evE F b env) σ G1 H1 _ := o1
    exact ⟨H0, G1, env, sr1, o1'.imp fun p hp v G' H' g' t' => hp v G' H' (g1.trans g') (.of (t'.rep he))⟩
   | true =>
    rw [if_pos rfl]
    have o1' : Out X W (Res.ok (PV.bl true)) σ G1 H1 _ := o1
    exact o1' _ G1 H1 g1 (.of .b)
  | int _ => exact False.elim o1
  | non => exact False.elim o1
  | str _ => exact False.elim o1
  | tup _ => exact False.elim o1
  | lst _ => exact False.elim o1
  | exc _ => exact False.elim o1
  | dct _ _ => exact False.elim o1
theorem gw_and {a b : E} {pa pb : Expr} {r : List Expr} {pos : Pos} (ha : GT X W F a pa) (hb : GW X W F b (.BoolOp .And (pb :: r) pos)) : GW X W F (.and a b) (.BoolOp .And (pa :: pb :: r) pos) :=
 (pw_and ha hb).imp fun σ H Q h => by
  obtain ⟨H0, G, env, sr, o⟩ := h
  rw [evE] at o
  refine oneT sr o fun t G1 H1 g1 sr1 o1 => ?_
  cases t with
  | true =>
   rw [if_pos rfl]
   have o1' : Out X W (evE F b env) σ G1 H1 _ := o1
   exact ⟨H0, G1, env, sr1, o1'.imp fun p hp => by obtain ⟨c, rfl, q⟩ := hp; exact ⟨c, rfl, fun G' H' g' => q G' H' (g1.trans g')⟩⟩
  | false =>
   rw [if_neg Bool.false_ne_true]
   obtain ⟨c, e, q⟩ := (show Out X W (Res.ok (PV.bl false)) σ G1 H1 _ from o1)
   cases e
   exact q G1 H1 g1
theorem gw_or {a b : E} {pa pb : Expr} {r : List Expr} {pos : Pos} (ha : GT X W F a pa) (hb : GW X W F b (.BoolOp .Or (pb :: r) pos)) : GW X W F (.or a b) (.BoolOp .Or (pa :: pb :: r) pos) :=
 (pw_or ha hb).imp fun σ H Q h => by
  obtain ⟨H0, G, env, sr, o⟩ := h
  rw [evE] at o
  refine oneT sr o fun t G1 H1 g1 sr1 o1 => ?_
  cases t with
  | false =>
   rw [if_neg Bool.false_ne_true]
   have o1' : Out X W (evE F b env) σ G1 H1 _ := o1
   exact ⟨H0, G1, env, sr1, o1'.imp fun p hp => by obtain ⟨c, rfl, q⟩ := hp; exact ⟨c, rfl, fun G' H' g' => q G' H' (g1.trans g')⟩⟩
  | true =>
   rw [if_pos rfl]
   obtain ⟨c, e, q⟩ := (show Out X W (Res.ok (PV.bl true)) σ G1 H1 _ from o1)
   cases e
   exact q G1 H1 g1
theorem ge_ite {c a b : E} {pc pa pb : Expr} {pos : Pos} (hea : esc a = true) (heb : esc b = true) (hc : GT X W F c pc) (ha : GE X W F a pa) (hb : GE X W F b pb) : GE X W F (.ite c a b) (.IfExp pc pa pb pos) :=
 (pe_ifExp hc ha hb).imp fun σ H Q h => by
  obtain ⟨H0, G, env, sr, o⟩ := h
  rw [evE] at o
  refine oneT sr o fun t G1 H1 g1 sr1 o1 => ?_
  cases t with
  | true =>
   rw [if_pos rfl]
   have o1' : Out X W (evE F a env) σ G1 H1 _ := o1
   exact ⟨H0, G1, env, sr1, o1'.imp fun p hp v G' H' g' t' => hp v G' H' (g1.trans g') (.of (t'.rep hea))⟩
  | false =>
   rw [if_neg Bool.false_ne_true]
   have o1' : Out X W (evE F b env) σ G1 H1 _ := o1
   exact ⟨H0, G1, env, sr1, o1'.imp fun p hp v G' H' g' t' => hp v G' H' (g1.trans g') (.of (t'.rep heb))⟩
end
end Ci
set_option maxHeartbeats 4000000
namespace Ci
open PySem L2
section
variable {Γ : Pg} {X : Cx} {W : Wd} {F : Fns} {N : List Str} {sc : Scope} {k : Nat}
def tF (X : Cx) (W : Wd) (F : Fns) (e : E) : TE := fun σ H Q => ∃ H0 G env, SR W H0 env σ G H ∧ Out X W (evE F e env) σ G H fun p => ∃ xs, p = .lst xs ∧ ∀ a vs G' H', Grow G H G' H' → H' a = none → RepL W G' xs vs → Q (.ref a) (upd H' a (.lst vs))
abbrev GF (X : Cx) (W : Wd) (F : Fns) (e : E) (p : Expr) : Prop := PE X p (tF X W F e)
theorem GF.ge {e : E} {p : Expr} (h : GF X W F e p) (hl : ∀ env q, evE F e env = .ok q → ∃ xs, q = .lst xs) : GE X W F e p :=
 L2.PE.imp h fun σ H Q hq => by
  obtain ⟨H0, G, env, sr, o⟩ := hq
  refine ⟨H0, G, env, sr, ?_⟩
  cases r : evE F e env with
  | bad => rw [r] at o; exact o
  | exc c => rw [r] at o; exact o
  | ok q =>
   rw [r] at o
   obtain ⟨xs, rfl⟩ := hl env q r
   exact ⟨xs, rfl, fun a vs G' H' g ha l => o _ _ _ (g.trans (.new g.sub ha)) (.of (.l (.inl (.inl upd_same)) (RepL.same (same_upd (g.sub.free ha)) xs l)))⟩
theorem notStar {e : E} {p : Expr} (h : chkE Γ N sc e p = true) : ∀ env ps, starEach (p :: ps) env = (false, eval p env) :: starEach ps env := by
 intro env ps
 cases p <;> first | rfl | (cases e <;> first | (exact absurd h Bool.false_ne_true) | (rename_i q; cases q <;> exact absurd h Bool.false_ne_true))
theorem star_plain : ∀ {es : Es} {ps : List Expr}, chkEs Γ N sc es ps = true → ∀ env pos, (backTo pos (starEach ps env)).any (·.1) = false
 | .nil, [], _, _, _ => rfl
 | .cons e es, p :: ps, h, env, pos => by
  replace h := and_of h
  rw [notStar h.1]
  show (false || (backTo pos (starEach ps env)).any (·.1)) = false
  rw [star_plain h.2]
  rfl
 | .nil, _ :: _, h, _, _ => absurd h Bool.false_ne_true
 | .cons _ _, [], h, _, _ => absurd h Bool.false_ne_true
abbrev GA (X : Cx) (W : Wd) (F : Fns) (es : Es) (ps : List Expr) : Prop := PA X ps (tA X W F es)
theorem ga_nil : GA X W F .nil [] := L2.PA.imp pa_nil fun σ H Q h => by
 obtain ⟨H0, G, env, sr, o⟩ := h
 rw [evEs] at o
 exact o [] G H (.refl sr.sub) ⟨.nil, fun _ => .nil⟩
theorem ga_cons {e : E} {es : Es} {p : Expr} {ps : List Expr} (he : GE X W F e p) (hs : GA X W F es ps) (hst : starEach (p :: ps) X.env = (false, eval p X.env) :: starEach ps X.env) : GA X W F (.cons e es) (p :: ps) :=
 L2.PA.imp (pa_cons he hs hst) fun σ H Q h => by
  obtain ⟨H0, G, env, sr, o⟩ := h
  rw [evEs] at o
  refine one sr o fun q v G1 H1 g1 t1 sr1 o1 => args sr1 o1 fun qs vs G2 H2 g2 t2 sr2 o2 => ?_
  refine o2 (v :: vs) G2 H2 (g1.trans g2) ⟨.cons (t1.top.grow g2) t2.top, fun z => ?_⟩
  unfold escs at z
  rw [Bool.and_eq_true] at z
  exact .cons (Rep.same g2.g q (t1.rep z.1)) (t2.rep z.2)
theorem evEs_len : ∀ {es : Es} {env : Sl} {ps : List PV}, evEs F es env = .ok ps → ps.length = lenEs es
 | .nil, env, ps, h => by rw [evEs] at h; cases h; rfl
 | .cons e es, env, ps, h => by
  rw [evEs] at h
  obtain ⟨p, _, h⟩ := Res.bind_ok h
  obtain ⟨qs, hq, h⟩ := Res.bind_ok h
  cases h
  rw [List.length_cons, evEs_len hq]
  rfl
theorem ge_tup {es : Es} {ps : List Expr} {x1 : Nat} {pos : Pos} (hes : escs es = true) (hl : lenEs es < 1000) (h : GA X W F es ps) : GE X W F (.tup es) (.Tuple ps x1 pos) :=
 L2.PE.imp (pe_tup h) fun σ H Q hq => by
  obtain ⟨H0, G, env, sr, o⟩ := hq
  rw [evE] at o
  have o' := o
  refine ⟨H0, G, env, sr, ?_⟩
  cases r : evEs F es env with
  | bad => rw [r] at o; exact o
  | exc c => rw [r] at o; exact o
  | ok qs =>
   rw [r] at o
   have hlen := evEs_len r
   intro vs G1 H1 g1 t
   have l := t.rep hes
   refine ⟨by rw [l.length, hlen]; exact Nat.le_of_lt (Nat.lt_trans hl (by decide)), fun p hp => ?_⟩
   exact o _ _ _ (g1.trans (.new g1.sub hp)) (.of (.t (SqT.of upd_same) (RepL.same (same_upd (g1.sub.free hp)) qs l)))
theorem gf_lst {es : Es} {ps : List Expr} {pos : Pos} (hes : escs es = true) (hl : lenEs es < 1000) (h : GA X W F es ps) : GF X W F (.lst es) (.List ps pos) :=
 L2.PE.imp (pe_lst h) fun σ H Q hq => by
  obtain ⟨H0, G, env, sr, o⟩ := hq
  rw [evE] at o
  refine ⟨H0, G, env, sr, ?_⟩
  cases r : evEs F es env with
  | bad => rw [r] at o; exact o
  | exc c => rw [r] at o; exact o
  | ok qs =>
   rw [r] at o
   have hlen := evEs_len r
   obtain ⟨xs, e, o⟩ := o
   cases e
   intro vs G1 H1 g1 t
   have l := t.rep hes
   exact ⟨by rw [l.length, hlen]; exact Nat.le_of_lt (Nat.lt_trans hl (by decide)), fun p hp => o p vs G1 H1 g1 hp l⟩
theorem lst_is {es : Es} : ∀ env q, evE F (.lst es) env = .ok q → ∃ xs, q = .lst xs := fun env q h => by
 rw [evE] at h
 obtain ⟨ps, _, h⟩ := Res.bind_ok h
 cases h
 exact ⟨_, rfl⟩
theorem noexc_sub {p q : PV} (c : Str) : subOp p q ≠ .exc c := by
 unfold subOp
 split
 ·exact Res.of_noexc c
 ·exact Res.of_noexc c
 ·split
  ·intro z
   rcases Res.bind_exc z with z | ⟨a, _, z⟩
   ·exact Res.of_noexc c z
   ·cases z
  ·exact fun z => nomatch z
 ·exact fun z => nomatch z
theorem ge_sub (C : CxI Γ F W N sc k X) {a b : E} {pa pb : Expr} {pos : Pos} (ha : GE X W F a pa) (hb : GE X W F b pb) (hs : PlainIx pb) : GE X W F (.sub a b) (.Subscript pa pb pos) :=
 (pe_ix (ix_P C.K) ha hb hs).imp fun σ H Q h => two (fun p q c => noexc_sub c) (fun env => by rw [evE]) h
theorem plain_ix {e : E} {p : Expr} (h : chkE Γ N sc e p = true) : PlainIx p := by
 intro o i
 cases p <;> first | rfl | (cases e <;> first | (exact absurd h Bool.false_ne_true) | (rename_i q; cases q <;> exact absurd h Bool.false_ne_true))
theorem no_mark {e : E} {p : Expr} (h : chkE Γ N sc e p = true) (op : CmpOp) : behindInMarks op p = false := by
 cases p <;> first | rfl | (cases e <;> first | (exact absurd h Bool.false_ne_true) | (rename_i q; cases q <;> exact absurd h Bool.false_ne_true))
theorem go_none : PO X none (tOp_ X W F .no) := fun pins s σ H Q I h => po_none pins s σ H Q I (by
 obtain ⟨H0, G, env, sr, o⟩ := h
 rw [evO] at o
 exact o G H (.refl sr.sub))
theorem go_some {e : E} {p : Expr} (h : GE X W F e p) : PO X (some p) (tOp_ X W F (.some e)) := fun pins s σ H Q I hq => po_some h pins s σ H Q I (by
 obtain ⟨H0, G, env, sr, o⟩ := hq
 rw [evO] at o
 refine one sr o fun q v G1 H1 g1 t1 sr1 o1 => ?_
 cases q with
 | int i => exact ⟨i, t1.top.int, o1 G1 H1 g1⟩
 | bl _ => exact False.elim o1
 | non => exact False.elim o1
 | str _ => exact False.elim o1
 | tup _ => exact False.elim o1
 | lst _ => exact False.elim o1
 | exc _ => exact False.elim o1
 | dct _ _ => exact False.elim o1)
theorem noexc_slice {p : PV} {lo hi : Option Int} (c : Str) : sliceOp p lo hi ≠ .exc c := by
 unfold sliceOp
 split
 ·exact fun z => nomatch z
 ·split <;> exact fun z => nomatch z
 ·split <;> exact fun z => nomatch z
 ·exact fun z => nomatch z
theorem ge_slice (C : CxI Γ F W N sc k X) {a : E} {lo hi : Oe} {pa : Expr} {pl ph : Option Expr} {p2 pos : Pos} (ha : GE X W F a pa) (hl : PO X pl (tOp_ X W F lo)) (hh : PO X ph (tOp_ X W F hi)) : GE X W F (.slice a lo hi) (.Subscript pa (.Slice pl ph none p2) pos) :=
 (pe_slice (sl_P C.K) ha hl hh).imp fun σ H Q h => by
  obtain ⟨H0, G, env, sr, o⟩ := h
  rw [evE] at o
  refine one sr o fun p v G1 H1 g1 t1 sr1 o1 => ?_
  refine ⟨H0, G1, env, sr1, o1.bind.imp fun l hl' G2 H2 g2 => ?_⟩
  refine ⟨H0, G2, env, sr1.grow g2, (hl'.grow g2).bind.imp fun h' hh' G3 H3 g3 => ?_⟩
  obtain ⟨r, hr, kr⟩ := (hh'.grow g3).val (fun c => noexc_slice c)
  exact ⟨H0, G3, p, r, ((sr1.grow g2).grow g3).sub, t1.top.grow (g2.trans g3), hr, fun w G' H' g' rw' => kr w G' H' (((g1.trans g2).trans g3).trans g') (.of rw')⟩
theorem run_fnS {CX : CXT} {f : Addr} {fd : FuncData} {ps : List Str} {sp : Sp} {E : XK} {pins : List (Addr × Obj)} {σ : St} {H : Hp} {s : Shared} {Q : VK} {us : List Value} {vs : List V} (FO : FnOk X.prog X.w X.K X.mg X.base CX k f fd ps sp) (hr : Room k X.A) (hb : Binds X.K fd ps [])
 (hx : ∀ e s', CX X.stack H s E e s' → X.xe e s') (I : Inv X pins σ H s) (r : Vals vs us) (h : sp vs H Q E) : wpAny (model X.prog X.w) X.A (call (.ref f) us) (EP X pins σ Q) X.xe s := by
 have hl : us.length = ps.length := by rw [← r.length]; exact FO.len _ _ _ _ h
 have hb' := hb s us I.kIn (by rw [List.append_nil]; exact hl)
 rw [List.append_nil] at hb'
 refine wpAny_call (codeAny_mono (FO.run X.A X.stack s H ⟨us, []⟩ us vs Q E hr I.env0 hb' r h) fun r s' hq => ?_)
 cases r with
 | error e => exact hx e s' hq
 | ok fl =>
  cases fl with
  | ret u => exact I.after hq
  | next => exact False.elim hq
  | brk => exact False.elim hq
  | cont => exact False.elim hq
theorem Fly.imp {P : Program} {w : World} {outer : List Env} {H : Hp} {s s' : Shared} {E E' : XK} {e : Value} (h : CX1 P w outer H s E e s') (i : ∀ C a H', E C a H' → E' C a H') : CX1 P w outer H s E' e s' := by
 obtain ⟨a, C, t, vs, H', B, rfl, F⟩ := h
 exact ⟨a, C, t, vs, H', B, rfl, ⟨F.os, F.bare, F.hok, F.fly, F.tn, F.tup, F.keepB, F.thereB, F.un, i _ _ _ F.ends⟩⟩
theorem call_run (C : CxI Γ F W N sc k X) {f : Str} {fa : Addr} {fd : FuncData} {pn : List Str} {pins : List (Addr × Obj)} {σ : St} {G H : Hp} {s : Shared} {Q : VK} {us : List Value} {vs : List V} {as : List PV}
 (FO : FnOk X.prog X.w X.K X.mg X.base (CX1 X.prog X.w) k fa fd pn (fun vs H Q E => vs.length = pn.length ∧ ∃ G as, Same G H ∧ RepL W G as vs ∧ (match F f as with
  | .ok p => ∀ v G' H', Grow G H G' H' → Rep W G' p v → Q v H'
  | .exc c => ∀ Cv ao H', XE W c G H Cv ao H' → E Cv ao H'
  | .bad => False))) (hb : Binds X.K fd pn []) (hlen : ∀ as, F f as ≠ .bad → as.length = pn.length)
 (I : Inv X pins σ H s) (sg : Same G H) (l : RepL W G as vs) (r : Vals vs us) (o : Out X W (F f as) σ G H fun p => Wants W G H p Q) : wpAny (model X.prog X.w) X.A (call (.ref fa) us) (EP X pins σ Q) X.xe s := by
 have hnb : F f as ≠ .bad := fun z => by rw [z] at o; exact o
 refine run_fnS (E := fun Cv ao H' => ∃ c, F f as = .exc c ∧ XE W c G H Cv ao H') FO C.room hb (fun e s' x => ?_) I r ⟨by rw [l.length]; exact hlen as hnb, G, as, sg, l, ?_⟩
 ·cases z : F f as with
  | ok q =>
   obtain ⟨a, C', t, vs, H', B, rfl, Fl⟩ := x
   obtain ⟨c, e1, _⟩ := Fl.ends
   rw [z] at e1
   cases e1
  | exc c =>
   rw [z] at o
   refine o pins G H s e s' I (.refl sg) (Fly.imp x fun C1 a H' y => ?_)
   obtain ⟨c', e1, y⟩ := y
   rw [z] at e1
   cases e1
   exact y
  | bad => exact absurd z hnb
 ·cases z : F f as with
  | ok q =>
   rw [z] at o
   exact fun v G' H' g' rp => o v G' H' g' rp
  | exc c => exact fun Cv ao H' x => ⟨c, rfl, x⟩
  | bad => exact absurd z hnb
theorem ge_call (C : CxI Γ F W N sc k X) {f : Str} {e : E} {es : Es} {p : Expr} {ps : List Expr} {np pos : Pos} (hf : Γ.fs.contains f = true) (hg : glB sc f = true) (ho : okN f = true) (hes : escs (.cons e es) = true) (ha : GA X W F (.cons e es) (p :: ps))
 (hst : starEach (p :: ps) X.env = (false, eval p X.env) :: starEach ps X.env) (hpl : (backTo pos (starEach ps X.env)).any (·.1) = false) : GE X W F (.call f (.cons e es)) (.Call (.Name f np) (p :: ps) [] pos) := by
 intro pins s σ H Q I h
 obtain ⟨H0, G, env, sr, o⟩ := h
 rw [evE] at o
 obtain ⟨fa, fd, pn, FO, hm, hk, hb, hlen⟩ := (C.fns f hf).ex
 refine wpAny_Call_Name_kw (ld_glob I (gl_of C hg) hm ?_ (okN_d ho).1)
 refine PySem.W.callWith_K (h₀ := X.base) I.ok.mod.kin hk (thn (ha pos pins s σ H (fun vs H1 => ∃ G1 as, Same G1 H1 ∧ RepL W G1 as vs ∧ Out X W (F f as) σ G1 H1 fun p => Wants W G1 H1 p Q) I ?_) fun us s1 ⟨vs, H1, I1, r, q⟩ => ⟨I1.kIn, ?_⟩) hst hpl
 ·refine args sr o fun as vs G1 H1 g1 t sr1 o1 => ⟨G1, as, sr1.sub, t.rep hes, o1.imp fun p hp v G' H' g' rp => hp v G' H' (g1.trans g') (.of rp)⟩
 ·obtain ⟨G1, as, sg, l, o1⟩ := q
  exact call_run C FO hb hlen I1 sg l r o1
theorem ge_call0 (C : CxI Γ F W N sc k X) {f : Str} {np pos : Pos} (hf : Γ.fs.contains f = true) (hg : glB sc f = true) (ho : okN f = true) : GE X W F (.call f .nil) (.Call (.Name f np) [] [] pos) := by
 intro pins s σ H Q I h
 obtain ⟨H0, G, env, sr, o⟩ := h
 rw [evE, evEs] at o
 obtain ⟨fa, fd, pn, FO, hm, hk, hb, hlen⟩ := (C.fns f hf).ex
 refine wpAny_Call_Name_kw (ld_glob I (gl_of C hg) hm ?_ (okN_d ho).1)
 refine PySem.W.callWith_K0 I.kIn hk ?_
 have o' : Out X W (F f []) σ G H fun p => ∀ v G' H', Grow G H G' H' → Got W H0 G' H' (.call f .nil) p v → Q v H' := o
 exact call_run (us := []) (vs := []) C FO hb hlen I sr.sub .nil .nil (o'.imp fun p hp v G' H' g' rp => hp v G' H' g' (.of rp))
theorem noexc_blt {b : B} {ps : List PV} (c : Str) : bltOp b ps ≠ .exc c := by
 cases b
 case len => show bLen ps ≠ _; unfold bLen; repeat' split
             all_goals exact fun z => nomatch z
 case abs => show bAbs ps ≠ _; unfold bAbs; split <;> exact fun z => nomatch z
 case max2 => show bMax ps ≠ _; unfold bMax; split <;> exact fun z => nomatch z
 case min2 => show bMin ps ≠ _; unfold bMin; split <;> exact fun z => nomatch z
 case int =>
  show bInt ps ≠ _
  unfold bInt
  split
  ·split
   ·intro z
    rcases Res.bind_exc z with z | ⟨a, _, z⟩
    ·exact Res.of_noexc c z
    ·cases z
   ·exact fun z => nomatch z
  ·exact fun z => nomatch z
  ·exact fun z => nomatch z
  ·exact fun z => nomatch z
 case str => show bStr ps ≠ _; unfold bStr; repeat' split
             all_goals exact fun z => nomatch z
 case list => show bList ps ≠ _; unfold bList; repeat' split
              all_goals exact fun z => nomatch z
 case tuple => show bTuple ps ≠ _; unfold bTuple; split <;> exact fun z => nomatch z
 case all =>
  show bAll ps ≠ _
  unfold bAll
  split
  ·intro z
   rcases Res.bind_exc z with z | ⟨a, _, z⟩
   ·exact Res.of_noexc c z
   ·cases z
  ·exact fun z => nomatch z
 case sum =>
  show bSum ps ≠ _
  unfold bSum
  split
  ·intro z
   rcases Res.bind_exc z with z | ⟨a, _, z⟩
   ·exact Res.of_noexc c z
   ·split at z <;> cases z
  ·exact fun z => nomatch z
theorem noexc_mth {m : M} {ps : List PV} (c : Str) : mthOp m ps ≠ .exc c := by
 cases m
 case countS => show mCountS ps ≠ _; unfold mCountS; split <;> exact fun z => nomatch z
 case countL => show mCountL ps ≠ _; unfold mCountL; repeat' split
                all_goals exact fun z => nomatch z
 case index => show mIndex ps ≠ _; unfold mIndex; repeat' split
               all_goals exact fun z => nomatch z
 case join =>
  show mJoin ps ≠ _
  unfold mJoin
  split
  ·intro z
   rcases Res.bind_exc z with z | ⟨a, _, z⟩
   ·exact Res.of_noexc c z
   ·split at z <;> cases z
  ·exact fun z => nomatch z
theorem pe_blt (C : CxI Γ F W N sc k X) (b : B) {e : Expr} {es : List Expr} {t : TA} {np pos : Pos} (hg : glB sc (bN b) = true) (hm : Γ.bs.contains (bN b) = true) (ha : PA X (e :: es) t)
 (he : starEach (e :: es) X.env = (false, eval e X.env) :: starEach es X.env) (hpl : (backTo pos (starEach es X.env)).any (·.1) = false) : PE X (.Call (.Name (bN b) np) (e :: es) [] pos) (tCB (Cal W (bltOp b)) t) := by
 have hm' := C.bs _ (List.contains_iff_mem.mp hm)
 have hg' := gl_of C hg
 cases b
 case len => exact pe_callB (call_lenP C.K) hg' hm' PySem.boot_len ha (he := he) (hpl := hpl)
 case abs => exact pe_callB call_absP hg' hm' (by decide +kernel) ha (he := he) (hpl := hpl)
 case max2 => exact pe_callB (call_maxP C.calm) hg' hm' (by decide +kernel) ha (he := he) (hpl := hpl)
 case min2 => exact pe_callB (call_minP C.calm) hg' hm' (by decide +kernel) ha (he := he) (hpl := hpl)
 case int => exact pe_callTy call_intP hg' hm' (by decide +kernel) ha (he := he) (hpl := hpl)
 case str => exact pe_callTy call_strP hg' hm' (by decide +kernel) ha (he := he) (hpl := hpl)
 case list => exact pe_callTy (call_listP C.calm C.K) hg' hm' (by decide +kernel) ha (he := he) (hpl := hpl)
 case tuple => exact pe_callTy (call_tupleP C.K) hg' hm' (by decide +kernel) ha (he := he) (hpl := hpl)
 case all => exact pe_callB (call_allP C.calm C.K) hg' hm' (by decide +kernel) ha (he := he) (hpl := hpl)
 case sum => exact pe_callB (call_sumP C.calm C.K) hg' hm' (by decide +kernel) ha (he := he) (hpl := hpl)
theorem cal_of {op : List PV → Res PV} {es : Es} {e : E} {σ : St} {H : Hp} {Q : VK} (hn : ∀ ps c, op ps ≠ .exc c) (he : ∀ env, evE F e env = (evEs F es env).bind fun ps => op ps) (h : tE X W F e σ H Q) : tCB (Cal W op) (tA X W F es) σ H Q := by
 obtain ⟨H0, G, env, sr, o⟩ := h
 rw [he] at o
 refine args sr o fun ps vs G1 H1 g1 t sr1 o1 => ?_
 obtain ⟨r, hr, kr⟩ := o1.val (hn ps)
 exact ⟨H0, G1, ps, r, sr1.sub, t.top, hr, fun w G' H' g' rw' => kr w G' H' (g1.trans g') (.of rw')⟩
theorem ge_blt (C : CxI Γ F W N sc k X) (b : B) {es : Es} {e : Expr} {ps : List Expr} {np pos : Pos} (hg : glB sc (bN b) = true) (hm : Γ.bs.contains (bN b) = true) (ha : GA X W F es (e :: ps))
 (he : starEach (e :: ps) X.env = (false, eval e X.env) :: starEach ps X.env) (hpl : (backTo pos (starEach ps X.env)).any (·.1) = false) : GE X W F (.blt b es) (.Call (.Name (bN b) np) (e :: ps) [] pos) :=
 (pe_blt C b hg hm ha he hpl).imp fun σ H Q h => cal_of (fun ps c => noexc_blt c) (fun env => by rw [evE]) h
end
end Ci
set_option maxHeartbeats 4000000
namespace Ci
open PySem L2
section
variable {Γ : Pg} {X : Cx} {W : Wd} {F : Fns} {N : List Str} {sc : Scope} {k : Nat}
theorem noexc_ty {t : Ty} {p : PV} (c : Str) : tyOp t p ≠ .exc c := by
 cases p <;> exact fun z => nomatch z
theorem pe_tyN (C : CxI Γ F W N sc k X) (t : Ty) {pos : Pos} (hg : glB sc (Str.ofString (tyN t)) = true) (hm : Γ.bs.contains (Str.ofString (tyN t)) = true) : PE X (.Name (Str.ofString (tyN t)) pos) (tC (.ty (tyN t))) := by
 have hm' := C.bs _ (List.contains_iff_mem.mp hm)
 have hg' := gl_of C hg
 cases t
 all_goals exact pe_bltn hg' hm' (u := .type _) (by decide +kernel) rfl (by decide +kernel) (by decide +kernel)
theorem ge_ty (C : CxI Γ F W N sc k X) {t : Ty} {a : E} {pa : Expr} {np tp pos : Pos} (hi : glB sc "isinstance" = true) (hb : Γ.bs.contains "isinstance" = true) (hg : glB sc (Str.ofString (tyN t)) = true) (hm : Γ.bs.contains (Str.ofString (tyN t)) = true) (ha : GE X W F a pa)
 (hst : ∀ env ps, starEach (pa :: ps) env = (false, eval pa env) :: starEach ps env) : GE X W F (.ty t a) (.Call (.Name "isinstance" np) [pa, .Name (Str.ofString (tyN t)) tp] [] pos) := by
 refine (pe_callB (call_tyP C.K t) (gl_of C hi) (C.bs _ (List.contains_iff_mem.mp hb)) (by decide +kernel) (pa_cons ha (pa_cons (pe_tyN C t hg hm) pa_nil) (hst _ _)) (he := hst _ _)).imp fun σ H Q h => ?_
 obtain ⟨H0, G, env, sr, o⟩ := h
 rw [evE] at o
 refine one sr o fun p v G1 H1 g1 t1 sr1 o1 => ?_
 obtain ⟨r, hr, kr⟩ := o1.val (fun c => noexc_ty c)
 exact ⟨v, H0, G1, p, r, rfl, sr1.sub, t1.top, hr, fun w G' H' g' rw' => kr w G' H' (g1.trans g') (.of rw')⟩
theorem ge_isx (C : CxI Γ F W N sc k X) {c : Str} {a : E} {pa : Expr} {np tp pos : Pos} (hi : glB sc "isinstance" = true) (hb : Γ.bs.contains "isinstance" = true) (hg : glB sc c = true) (hok : okN c = true) (hm : (Γ.cs.contains c || (c == "ValueError" && Γ.bs.contains c)) = true) (ha : GE X W F a pa)
 (hst : ∀ env ps, starEach (pa :: ps) env = (false, eval pa env) :: starEach ps env) (hcs : Γ.cs.contains "ValueError" = false) : GE X W F (.isx c a) (.Call (.Name "isinstance" np) [pa, .Name c tp] [] pos) := by
 have key : ∀ {p : PV} {H0 G H : Hp} {v : V} {σ : St} {kk : PV → Prop} {env : Sl}, Top W H0 G H p v → Same G H → Out X W (match p with | .exc d => Res.ok (PV.bl (if c == "ValueError" then true else (c == d || c == "FloorError"))) | _ => .bad) σ G H kk → ∃ a d D, p = .exc d ∧ v = .ref a ∧ d ∈ W.xs ∧ X.mg d = some (.ref D) ∧ H a = some (excO a D) := fun {p H0 G H v σ kk env} t sg o => by
  cases p with
  | exc d =>
   rcases t with t | t
   ·simp only [Rep] at t
    obtain ⟨a, D, rfl, hx, hm, ha⟩ := t
    exact ⟨a, d, D, rfl, rfl, hx, by rw [← C.mg]; exact hm, sg _ _ ha⟩
   ·exact t.elim
  | int _ => exact False.elim o
  | bl _ => exact False.elim o
  | non => exact False.elim o
  | str _ => exact False.elim o
  | tup _ => exact False.elim o
  | lst _ => exact False.elim o
  | dct _ _ => exact False.elim o
 by_cases hv : (c == ("ValueError" : Str)) = true
 ·have ec : c = "ValueError" := beq_iff_eq.mp hv
  have hbs : Γ.bs.contains c = true := by
   rw [Bool.or_eq_true, Bool.and_eq_true] at hm
   rcases hm with h | h
   ·rw [ec, hcs] at h; cases h
   ·exact h.2
  subst ec
  refine (pe_callB call_isxT (gl_of C hi) (C.bs _ (List.contains_iff_mem.mp hb)) (by decide +kernel) (pa_cons ha (pa_cons (pe_tyValueError (gl_of C hg) (C.bs _ (List.contains_iff_mem.mp hbs))) pa_nil) (hst _ _)) (he := hst _ _)).imp fun σ H Q h => ?_
  obtain ⟨H0, G, env, sr, o⟩ := h
  rw [evE] at o
  refine one sr o fun p v G1 H1 g1 t1 sr1 o1 => ?_
  obtain ⟨a1, d, D, rfl, rfl, hx, hmd, hH⟩ := key (env := env) t1.top sr1.sub o1
  obtain ⟨xc, _, hk⟩ := C.xc d hx D hmd
  exact ⟨a1, D, "ValueError", true, rfl, hH, xc, hk, o1 _ G1 H1 g1 (.of .b)⟩
 ·have hcc : Γ.cs.contains c = true := by
   rw [Bool.or_eq_true, Bool.and_eq_true] at hm
   rcases hm with h | h
   ·exact h
   ·exact absurd h.1 hv
  obtain ⟨Cc, hCc⟩ := C.cls c (List.contains_iff_mem.mp hcc)
  refine (pe_callB call_isxC (gl_of C hi) (C.bs _ (List.contains_iff_mem.mp hb)) (by decide +kernel) (pa_cons ha (pa_cons (pe_globR (gl_of C hg) hCc (okN_d hok).1) pa_nil) (hst _ _)) (he := hst _ _)).imp fun σ H Q h => ?_
  obtain ⟨H0, G, env, sr, o⟩ := h
  rw [evE] at o
  refine one sr o fun p v G1 H1 g1 t1 sr1 o1 => ?_
  obtain ⟨a1, d, D, rfl, rfl, hx, hmd, hH⟩ := key (env := env) t1.top sr1.sub o1
  obtain ⟨xc, hk, _⟩ := C.xc d hx D hmd
  have o2 : Out X W (Res.ok (PV.bl (if c == "ValueError" then true else (c == d || c == "FloorError")))) σ G1 H1 _ := o1
  rw [if_neg hv] at o2
  exact ⟨a1, D, Cc, _, rfl, hH, xc, hk c (List.contains_iff_mem.mp hcc) Cc hCc, o2 _ G1 H1 g1 (.of .b)⟩
def mT : M → String
 | .join => "str" | .countS => "str" | .countL => "list" | .index => "list"
theorem ty_m (C : CxI Γ F W N sc k X) {m : M} {p : PV} {v : V} {H0 G H : Hp} (sg : Same G H) (h : mKind m p = true) (t : Top W H0 G H p v) : tyV X.K (mT m) v H := by
 cases m <;> cases p <;> first | (exact absurd h Bool.false_ne_true) | (cases t.str; rfl) | (obtain ⟨a, vs, rfl, h1, _⟩ := t.lst sg; exact .inl ⟨rfl, _, sqL C.K h1⟩)
theorem ge_mth (C : CxI Γ F W N sc k X) {m : M} {o : E} {es : Es} {po p : Expr} {ps : List Expr} {apos cpos : Pos} (ho : GE X W F o po) (ha : GA X W F es (p :: ps)) (hbase : attributeBase po (mN m) X.env (eval po X.env) = eval po X.env)
 (hfew : ((backTo cpos (starEach (p :: ps) X.env)).all (fun x => !x.1) && (backToKw cpos (keywordEach [] X.env)).all (fun x => x.1.isSome) && decide ((p :: ps).length + ([] : List Keyword).length + (if ([] : List Keyword).isEmpty then 0 else 1) < 30)) = true)
 (hline : (apos.endLine == cpos.line) = true) (hs : starEach (p :: ps) X.env = (false, eval p X.env) :: starEach ps X.env) (hplain : (backTo cpos (starEach ps X.env)).any (·.1) = false) : GE X W F (.mth m o es) (.Call (.Attribute po (mN m) apos) (p :: ps) [] cpos) := by
 have rd : ∀ σ H Q, tE X W F (.mth m o es) σ H Q → tBM X.K (mT m) (Mtd W (mthOp m)) (tE X W F o) (tA X W F es) σ H Q := fun σ H Q h => by
  obtain ⟨H0, G, env, sr, out⟩ := h
  rw [evE] at out
  refine one sr out fun p v G1 H1 g1 t1 sr1 o1 => ?_
  by_cases hk : mKind m p = true
  ·rw [if_pos hk] at o1
   refine ⟨ty_m C sr1.sub hk t1.top, args sr1 o1 fun ps vs G2 H2 g2 t2 sr2 o2 => ?_⟩
   obtain ⟨r, hr, kr⟩ := o2.val (fun c => noexc_mth c)
   exact ⟨H0, G2, p :: ps, r, sr2.sub, .cons (t1.top.grow g2) t2.top, hr, fun w G' H' g' rw' => kr w G' H' ((g1.trans g2).trans g') (.of rw')⟩
  ·rw [if_neg hk] at o1
   exact o1.elim
 cases m
 case countS => exact (pe_bm PySem.F.plainAttrs_str PySem.F.slot_str_count PySem.F.type_str_count mt_countSP ho ha hbase hfew hline hs hplain).imp rd
 case join => exact (pe_bm PySem.F.plainAttrs_str PySem.F.slot_str_join PySem.F.type_str_join (mt_joinP C.K) ho ha hbase hfew hline hs hplain).imp rd
 case countL => exact (pe_bm PySem.F.plainAttrs_list PySem.F.slot_list_count PySem.F.type_list_count (mt_countLP C.K C.room.units) ho ha hbase hfew hline hs hplain).imp rd
 case index => exact (pe_bm PySem.F.plainAttrs_list PySem.F.slot_list_index PySem.F.type_list_index (mt_indexP C.K C.room.units) ho ha hbase hfew hline hs hplain).imp rd
end
end Ci
set_option maxHeartbeats 4000000
namespace Ci
open PySem L2
section
variable {Γ : Pg} {X : Cx} {W : Wd} {F : Fns} {N : List Str} {sc : Scope} {k : Nat}
theorem SR.set {H0 G H : Hp} {env : Sl} {σ : St} {p : PV} {v : V} (i : Nat) (r : SR W H0 env σ G H) (h : Rep W G p v) : SR W H0 (env.set i (.val p)) (σ.set i (some v)) G H where
 len := by simpa using r.len
 sub := r.sub
 base := r.base
 slot := fun j s e => by
  by_cases hj : i = j
  ·subst hj
   have hlt : i < env.length := by
    have := (List.getElem?_eq_some_iff.mp e).1
    simpa using this
   rw [List.getElem?_set_self hlt] at e
   cases e
   exact ⟨some v, List.getElem?_set_self (by rw [← r.len]; exact hlt), v, rfl, h⟩
  ·rw [List.getElem?_set_ne hj] at e
   obtain ⟨o, h1, h2⟩ := r.slot j s e
   exact ⟨o, by rw [List.getElem?_set_ne hj]; exact h1, h2⟩
 apart := fun a b q q' ad e1 e2 e3 e4 => by
  have ne : ∀ {c : Nat} {q : PV}, (env.set i (.val p))[c]? = some (.own q) → i ≠ c := fun {c q} e z => by
   subst z
   have hlt : i < env.length := by
    have := (List.getElem?_eq_some_iff.mp e).1
    simpa using this
   rw [List.getElem?_set_self hlt] at e
   cases e
  have n1 := ne e1
  have n2 := ne e2
  rw [List.getElem?_set_ne n1] at e1 e3
  rw [List.getElem?_set_ne n2] at e2 e4
  exact r.apart a b q q' ad e1 e2 e3 e4
def gT (K : PySem.W.Frag) : Tg → TG
 | .one i => gName i
 | .two i j => gTup K 2 (gCons (gName i) (gCons (gName j) gNil))
 | .three i j l => gTup K 3 (gCons (gName i) (gCons (gName j) (gCons (gName l) gNil)))
theorem gT_put {K : PySem.W.Frag} (hK : W.K = K) {tg : Tg} {H0 G H : Hp} {env env' : Sl} {σ : St} {p : PV} {v : V} {Q : St → Hp → Prop} (e : Tg.put tg p env = .ok env') (r : SR W H0 env σ G H) (h : Rep W G p v) (hq : ∀ σ', SR W H0 env' σ' G H → Q σ' H) : gT K tg v σ H Q := by
 unfold Tg.put at e
 split at e
 ·cases e
  exact hq _ (r.set _ h)
 ·cases e
  simp only [Rep] at h
  obtain ⟨a, vs, rfl, sq, l⟩ := h
  obtain ⟨v1, r1, rfl, h1, l⟩ := l.uncons
  obtain ⟨v2, r2, rfl, h2, l⟩ := l.uncons
  simp only [RepL] at l
  subst l
  rw [hK] at sq
  exact ⟨a, _, rfl, Same.tup r.sub sq, rfl, _, _, rfl, _, _, rfl, rfl, hq _ ((r.set _ h1).set _ h2)⟩
 ·cases e
  simp only [Rep] at h
  obtain ⟨a, vs, rfl, sq, l⟩ := h
  obtain ⟨v1, r1, rfl, h1, l⟩ := l.uncons
  obtain ⟨v2, r2, rfl, h2, l⟩ := l.uncons
  obtain ⟨v3, r3, rfl, h3, l⟩ := l.uncons
  simp only [RepL] at l
  subst l
  rw [hK] at sq
  exact ⟨a, _, rfl, Same.tup r.sub sq, rfl, _, _, rfl, _, _, rfl, _, _, rfl, rfl, hq _ (((r.set _ h1).set _ h2).set _ h3)⟩
 ·cases e
theorem loc_of {x : Str} (hsc : X.env.scope = sc) (h : locB sc x = true) : Loc X.env.scope x := by
 rw [hsc]
 unfold locB at h
 simp only [Bool.or_eq_true, beq_iff_eq] at h
 exact h
theorem pg_T {fn : Bool} {tg : Tg} {p : Expr} (hN : X.N = N) (nd : N.Nodup) (hsc : X.env.scope = sc) (hc : X.calm = true) (hfn : fn = true → ∀ x, X.fn x = true) (h : chkTg N sc fn tg p = true) : PG X p (gT X.K tg) := by
 have nm : ∀ {i : Nat} {x : Str} {pos : Pos}, (N[i]? == some x && locB sc x && (fn || sc.names.lookup x == some .local)) = true → PG X (.Name x pos) (gName i) := fun {i x pos} h => by
  simp only [Bool.and_eq_true, beq_iff_eq, Bool.or_eq_true] at h
  refine pg_name (by rw [hN]; exact nd) (by rw [hN]; exact h.1.1) (loc_of hsc h.1.2) ?_
  rcases h.2 with z | z
  ·exact .inl (hfn z x)
  ·exact .inr (by rw [hsc]; exact z)
 unfold chkTg at h
 split at h
 ·exact nm h
 ·rw [Bool.and_eq_true] at h
  exact pg_tup hc (pgs_cons (nm h.1) (pgs_cons (nm h.2) pgs_nil))
 ·rw [Bool.and_eq_true, Bool.and_eq_true] at h
  exact pg_tup hc (pgs_cons (nm h.1.1) (pgs_cons (nm h.1.2) (pgs_cons (nm h.2) pgs_nil)))
 ·cases h
def ItOk (W : Wd) (J : It) (G B : Hp) (ps : List PV) : Prop := ∀ (i : Nat) (G' H' : Hp), Same G G' → Same B H' → Same G' H' →
 (i = ps.length → J.stop i H') ∧ ∀ p, ps[i]? = some p → J.go i H' ∧ ∀ x H'', J.yld i H' x H'' → ∃ G'', Grow G' H' G'' H'' ∧ Rep W G'' p x
structure GotI (W : Wd) (G H : Hp) (it : I) (J : It) (ps : List PV) : Prop where
 any : ItOk W J G H ps
 frz : escI it = true → ItOk W J G G ps
def tI (X : Cx) (W : Wd) (F : Fns) (it : I) : TI := fun σ H R => ∃ H0 G env, SR W H0 env σ G H ∧ Out X W (evI F it env) σ G H fun ps => ∀ J G' H', Grow G H G' H' → GotI W G' H' it J ps → R J H'
abbrev GI (X : Cx) (W : Wd) (F : Fns) (tg : Expr) (it : I) (p : Expr) : Prop := PI X tg p (tI X W F it)
theorem it_list (hK : W.K = X.K) {G B : Hp} {a : Addr} {vs : List V} {ps : List PV} (h : LsR W.K B a vs) (l : RepL W G ps vs) : ItOk W (Itl X.K a) G B ps := fun i G' H' sG sB sub => by
 have hq : SqL X.K H' a vs := sqL hK (Same.ls sB h)
 refine ⟨fun hi => ⟨vs, hq, by rw [l.length]; omega⟩, fun p hp => ?_⟩
 obtain ⟨v, hv, rv⟩ := l.getP hp
 refine ⟨⟨vs, v, hq, hv⟩, fun x H'' hy => ?_⟩
 obtain ⟨rfl, hy⟩ := hy
 have := hy vs hq
 rw [hv] at this
 cases this
 exact ⟨G', .refl sub, Rep.same sG p rv⟩
theorem it_tup {K : PySem.W.Frag} {G B : Hp} {a : Addr} {vs : List V} {ps : List PV} (h : SqT K B a vs) (l : RepL W G ps vs) : ItOk W (Itt K a) G B ps := fun i G' H' sG sB sub => by
 have hq : SqT K H' a vs := Same.tup sB h
 refine ⟨fun hi => ⟨vs, hq, by rw [l.length]; omega⟩, fun p hp => ?_⟩
 obtain ⟨v, hv, rv⟩ := l.getP hp
 refine ⟨⟨vs, v, hq, hv⟩, fun x H'' hy => ?_⟩
 obtain ⟨rfl, hy⟩ := hy
 have := hy vs hq
 rw [hv] at this
 cases this
 exact ⟨G', .refl sub, Rep.same sG p rv⟩
theorem chars_get {z : Str} {i : Nat} {p : PV} (h : (chars z)[i]? = some p) : ∃ c, z.cps[i]? = some c ∧ p = .str ⟨#[c]⟩ := by
 unfold chars at h
 rw [List.getElem?_map] at h
 obtain ⟨c, hc, rfl⟩ := Option.map_eq_some_iff.mp h
 rw [Array.getElem?_toList] at hc
 exact ⟨c, hc, rfl⟩
theorem chars_len (z : Str) : (chars z).length = z.cps.size := by unfold chars; rw [List.length_map, Array.length_toList]
theorem it_str {G B : Hp} (z : Str) : ItOk W (Its z) G B (chars z) := fun i G' H' sG sB sub => by
 refine ⟨fun hi => by rw [chars_len] at hi; exact Nat.le_of_eq hi.symm, fun p hp => ?_⟩
 obtain ⟨c, hc, rfl⟩ := chars_get hp
 refine ⟨(Array.getElem?_eq_some_iff.mp hc).1, fun x H'' hy => ?_⟩
 obtain ⟨rfl, c', hc', rfl⟩ := hy
 rw [hc] at hc'
 cases hc'
 exact ⟨G', .refl sub, .s⟩
theorem it_rng {G B : Hp} (lo : Int) (n : Nat) : ItOk W (Itr lo n) G B (rngP lo n) := fun i G' H' sG sB sub => by
 unfold rngP
 refine ⟨fun hi => by rw [List.length_map, List.length_range] at hi; exact Nat.le_of_eq hi.symm, fun p hp => ?_⟩
 rw [List.getElem?_map] at hp
 obtain ⟨c, hc, rfl⟩ := Option.map_eq_some_iff.mp hp
 obtain ⟨h1, h2⟩ := List.getElem?_eq_some_iff.mp hc
 rw [List.length_range] at h1
 rw [List.getElem_range] at h2
 subst h2
 refine ⟨h1, fun x H'' hy => ?_⟩
 obtain ⟨rfl, rfl⟩ := hy
 exact ⟨G', .refl sub, .i⟩
theorem pair_new {G H : Hp} {p q : PV} {v u : V} {a : Addr} (sub : Same G H) (ha : H a = none) (h1 : Rep W G p v) (h2 : Rep W G q u) : ∃ G'', Grow G H G'' (upd H a (.tup [v, u])) ∧ Rep W G'' (.tup [p, q]) (.ref a) :=
 ⟨_, .new sub ha, .t (SqT.of upd_same) (RepL.same (same_upd (sub.free ha)) _ (.cons h1 (.cons h2 .nil)))⟩
theorem enum_get : ∀ {xs : List PV} {n i : Nat} {p : PV}, (enumP n xs)[i]? = some p → ∃ x, xs[i]? = some x ∧ p = .tup [.int ((n + i : Nat) : Int), x]
 | [], _, _, _, h => by simp [enumP] at h
 | x :: xs, n, 0, p, h => by simp [enumP] at h; exact ⟨x, rfl, by rw [← h]; simp⟩
 | x :: xs, n, i + 1, p, h => by
  simp only [enumP, List.getElem?_cons_succ] at h
  obtain ⟨y, h1, h2⟩ := enum_get h
  exact ⟨y, by simpa using h1, by rw [h2, show n + 1 + i = n + (i + 1) by omega]⟩
theorem enum_len : ∀ (xs : List PV) (n : Nat), (enumP n xs).length = xs.length
 | [], _ => rfl
 | _ :: xs, n => by simp only [enumP, List.length_cons, enum_len xs]
theorem it_enumT {K : PySem.W.Frag} {G B : Hp} {a : Addr} {vs : List V} {ps : List PV} (h : SqT K B a vs) (l : RepL W G ps vs) : ItOk W (Ite K a vs) G B (enumP 0 ps) := fun i G' H' sG sB sub => by
 have hq : SqT K H' a vs := Same.tup sB h
 refine ⟨fun hi => ⟨hq, by rw [enum_len] at hi; rw [l.length]; exact hi⟩, fun p hp => ?_⟩
 obtain ⟨x, hx, rfl⟩ := enum_get hp
 obtain ⟨v, hv, rv⟩ := l.getP hx
 refine ⟨⟨hq, (List.getElem?_eq_some_iff.mp hv).1⟩, fun y H'' hy => ?_⟩
 obtain ⟨b, x', rfl, hb, rfl, hx'⟩ := hy
 rw [hv] at hx'
 cases hx'
 rw [Nat.zero_add]
 exact pair_new sub hb .i (Rep.same sG x rv)
theorem it_enumL (hK : W.K = X.K) {G B : Hp} {a : Addr} {vs : List V} {ps : List PV} (h : LsR W.K B a vs) (l : RepL W G ps vs) : ItOk W (Itel X.K a vs) G B (enumP 0 ps) := fun i G' H' sG sB sub => by
 have hq : SqL X.K H' a vs := sqL hK (Same.ls sB h)
 refine ⟨fun hi => ⟨hq, by rw [enum_len] at hi; rw [l.length]; exact hi⟩, fun p hp => ?_⟩
 obtain ⟨x, hx, rfl⟩ := enum_get hp
 obtain ⟨v, hv, rv⟩ := l.getP hx
 refine ⟨⟨hq, (List.getElem?_eq_some_iff.mp hv).1⟩, fun y H'' hy => ?_⟩
 obtain ⟨b, x', rfl, hb, rfl, hx'⟩ := hy
 rw [hv] at hx'
 cases hx'
 rw [Nat.zero_add]
 exact pair_new sub hb .i (Rep.same sG x rv)
theorem it_enumS {G B : Hp} (z : Str) : ItOk W (Ies z) G B (enumP 0 (chars z)) := fun i G' H' sG sB sub => by
 refine ⟨fun hi => by rw [enum_len, chars_len] at hi; exact hi, fun p hp => ?_⟩
 obtain ⟨x, hx, rfl⟩ := enum_get hp
 obtain ⟨c, hc, rfl⟩ := chars_get hx
 refine ⟨(Array.getElem?_eq_some_iff.mp hc).1, fun y H'' hy => ?_⟩
 obtain ⟨b, c', rfl, hb, rfl, hc'⟩ := hy
 rw [hc] at hc'
 cases hc'
 rw [Nat.zero_add]
 exact pair_new sub hb .i .s
theorem zip_get : ∀ {xs ys : List PV} {i : Nat} {p : PV}, (zipP xs ys)[i]? = some p → ∃ x y, xs[i]? = some x ∧ ys[i]? = some y ∧ p = .tup [x, y]
 | [], _, _, _, h => by simp [zipP] at h
 | _ :: _, [], _, _, h => by simp [zipP] at h
 | x :: xs, y :: ys, 0, p, h => by simp [zipP] at h; exact ⟨x, y, rfl, rfl, h.symm⟩
 | x :: xs, y :: ys, i + 1, p, h => by
  simp only [zipP, List.getElem?_cons_succ] at h
  obtain ⟨a, b, h1, h2, h3⟩ := zip_get h
  exact ⟨a, b, by simpa using h1, by simpa using h2, h3⟩
theorem zip_len : ∀ (xs ys : List PV), (zipP xs ys).length = min xs.length ys.length
 | [], _ => by simp [zipP]
 | _ :: _, [] => by simp [zipP]
 | _ :: xs, _ :: ys => by simp only [zipP, List.length_cons, zip_len xs ys]; omega
theorem it_zip (hK : W.K = X.K) {G B : Hp} {a b : Addr} {vs us : List V} {ps qs : List PV} (h : LsR W.K B a vs) (h2 : LsR W.K B b us) (l : RepL W G ps vs) (l2 : RepL W G qs us) : ItOk W (Itz X.K a b vs us) G B (zipP ps qs) := fun i G' H' sG sB sub => by
 have hq : SqL X.K H' a vs := sqL hK (Same.ls sB h)
 have hq2 : SqL X.K H' b us := sqL hK (Same.ls sB h2)
 refine ⟨fun hi => ⟨hq, hq2, by rw [zip_len] at hi; rw [l.length, l2.length]; omega⟩, fun p hp => ?_⟩
 obtain ⟨x, y, hx, hy, rfl⟩ := zip_get hp
 obtain ⟨v, hv, rv⟩ := l.getP hx
 obtain ⟨u, hu, ru⟩ := l2.getP hy
 refine ⟨⟨hq, hq2, (List.getElem?_eq_some_iff.mp hv).1, (List.getElem?_eq_some_iff.mp hu).1⟩, fun w H'' hy => ?_⟩
 obtain ⟨b', x', y', rfl, hb, rfl, hx', hy'⟩ := hy
 rw [hv] at hx'
 cases hx'
 rw [hu] at hy'
 cases hy'
 exact pair_new sub hb (Rep.same sG x rv) (Rep.same sG y ru)
theorem tE_known {e : E} {σ : St} {H0 G H : Hp} {env : Sl} {Q : VK} {p : PV} (sr : SR W H0 env σ G H) (e1 : evE F e env = .ok p) (h : ∀ v G1 H1, Grow G H G1 H1 → Got W H0 G1 H1 e p v → Q v H1) : tE X W F e σ H Q := ⟨H0, G, env, sr, by rw [e1]; exact h⟩
theorem tE_exc {e : E} {σ : St} {H0 G H : Hp} {env : Sl} {Q : VK} {c : Str} (sr : SR W H0 env σ G H) (e1 : evE F e env = .exc c) (h : Rais X W σ c G H) : tE X W F e σ H Q := ⟨H0, G, env, sr, by rw [e1]; exact h⟩
theorem gi_seq (C : CxI Γ F W N sc k X) {tg p : Expr} {e : E} (he : GE X W F e p) : GI X W F tg (.seq e) p := by
 intro pins s σ H R I h
 obtain ⟨H0, G, env, sr, o⟩ := h
 rw [evI] at o
 cases r : evE F e env with
 | bad => rw [r] at o; exact o.elim
 | exc c => rw [r] at o; exact pi_list he pins s σ H R I (tE_exc sr r o)
 | ok q =>
  rw [r] at o
  cases q with
  | lst xs =>
   refine pi_list he pins s σ H R I (tE_known sr r fun v G1 H1 g1 t => ?_)
   have t' := t
   obtain ⟨a, vs, rfl, h1, l1⟩ := t.top.lst g1.sub
   refine ⟨a, rfl, ⟨vs, sqL C.K h1⟩, o _ G1 H1 g1 ⟨it_list C.K h1 l1, fun z => ?_⟩⟩
   have rp := t'.rep z
   simp only [Rep] at rp
   obtain ⟨a', vs', e1, h2, l2⟩ := rp
   cases e1
   exact it_list C.K h2 l2
  | tup xs =>
   refine pi_tup he pins s σ H R I (tE_known sr r fun v G1 H1 g1 t => ?_)
   have t' := t
   obtain ⟨a, vs, rfl, h1, l1⟩ := t.top.tup g1.sub
   rw [C.K] at h1
   refine ⟨a, rfl, ⟨vs, h1⟩, o _ G1 H1 g1 ⟨it_tup h1 l1, fun z => ?_⟩⟩
   have rp := t'.rep z
   simp only [Rep] at rp
   obtain ⟨a', vs', e1, h2, l2⟩ := rp
   cases e1
   rw [C.K] at h2
   exact it_tup h2 l2
  | str z => exact pi_str he pins s σ H R I (tE_known sr r fun v G1 H1 g1 t => ⟨z, t.top.str, o _ G1 H1 g1 ⟨it_str z, fun _ => it_str z⟩⟩)
  | int _ => exact False.elim o
  | bl _ => exact False.elim o
  | non => exact False.elim o
  | exc _ => exact False.elim o
  | dct _ _ => exact False.elim o
theorem small62_of {i : Int} (h : small62 i = true) : -(2 ^ 62) ≤ i ∧ i < 2 ^ 62 := by
 unfold small62 at h
 simpa using h
theorem gi_rng (C : CxI Γ F W N sc k X) {tg p : Expr} {e : E} {np pos : Pos} (hg : glB sc "range" = true) (hb : Γ.bs.contains "range" = true) (hst : ∀ env ps, starEach (p :: ps) env = (false, eval p env) :: starEach ps env) (he : GE X W F e p) : GI X W F tg (.rng e) (.Call (.Name "range" np) [p] [] pos) := by
 intro pins s σ H R I h
 refine pi_range1 (gl_of C hg) (C.bs _ (List.contains_iff_mem.mp hb)) (pa_cons he pa_nil (hst _ _)) (hst _ _) pins s σ H R I ?_
 obtain ⟨H0, G, env, sr, o⟩ := h
 rw [evI] at o
 refine one sr o fun q v G1 H1 g1 t sr1 o1 => ?_
 cases q with
 | int j =>
  by_cases hj : small62 j = true
  ·have o2 : Out X W (if small62 j = true then Res.ok (rngP 0 j.toNat) else .bad) σ G1 H1 _ := o1
   rw [if_pos hj] at o2
   exact ⟨j, by rw [t.top.int], (small62_of hj).1, (small62_of hj).2, o2 _ G1 H1 g1 ⟨it_rng _ _, fun _ => it_rng _ _⟩⟩
  ·have o2 : Out X W (if small62 j = true then Res.ok (rngP 0 j.toNat) else .bad) σ G1 H1 _ := o1
   rw [if_neg hj] at o2
   exact o2.elim
 | bl _ => exact False.elim o1
 | non => exact False.elim o1
 | str _ => exact False.elim o1
 | tup _ => exact False.elim o1
 | lst _ => exact False.elim o1
 | exc _ => exact False.elim o1
 | dct _ _ => exact False.elim o1
theorem gi_rng2 (C : CxI Γ F W N sc k X) {tg p q : Expr} {a b : E} {np pos : Pos} (hg : glB sc "range" = true) (hb : Γ.bs.contains "range" = true) (hst : ∀ env ps, starEach (p :: ps) env = (false, eval p env) :: starEach ps env) (hst2 : ∀ env ps, starEach (q :: ps) env = (false, eval q env) :: starEach ps env)
 (ha : GE X W F a p) (hb' : GE X W F b q) : GI X W F tg (.rng2 a b) (.Call (.Name "range" np) [p, q] [] pos) := by
 intro pins s σ H R I h
 refine pi_range2 (gl_of C hg) (C.bs _ (List.contains_iff_mem.mp hb)) (pa_cons ha (pa_cons hb' pa_nil (hst2 _ _)) (hst _ _)) (by rw [hst, hst2]; rfl) (hst2 _ _) pins s σ H R I ?_
 obtain ⟨H0, G, env, sr, o⟩ := h
 rw [evI] at o
 refine one sr o fun x v G1 H1 g1 t sr1 o1 => one sr1 o1 fun y u G2 H2 g2 t2 sr2 o2 => ?_
 cases x <;> cases y <;> first
  | (exact False.elim o2)
  | (rename_i i j
     by_cases hj : (small62 i && small62 j) = true
     ·have o3 : Out X W (if (small62 i && small62 j) = true then Res.ok (rngP i (j - i).toNat) else .bad) σ G2 H2 _ := o2
      rw [if_pos hj] at o3
      rw [Bool.and_eq_true] at hj
      exact ⟨i, j, by rw [t.top.int, t2.top.int], ⟨(small62_of hj.1).1, (small62_of hj.1).2, (small62_of hj.2).1, (small62_of hj.2).2⟩, o3 _ G2 H2 (g1.trans g2) ⟨it_rng _ _, fun _ => it_rng _ _⟩⟩
     ·have o3 : Out X W (if (small62 i && small62 j) = true then Res.ok (rngP i (j - i).toNat) else .bad) σ G2 H2 _ := o2
      rw [if_neg hj] at o3
      exact o3.elim)
theorem gi_enum (C : CxI Γ F W N sc k X) {elts : List Expr} {x1 : Nat} {tpos : Pos} {p : Expr} {e : E} {np pos : Pos} (hg : glB sc "enumerate" = true) (hb : Γ.bs.contains "enumerate" = true) (hst : ∀ env ps, starEach (p :: ps) env = (false, eval p env) :: starEach ps env) (he : GE X W F e p) :
 GI X W F (.Tuple elts x1 tpos) (.enum e) (.Call (.Name "enumerate" np) [p] [] pos) := by
 intro pins s σ H R I h
 have hg' := gl_of C hg
 have hm' := C.bs _ (List.contains_iff_mem.mp hb)
 have pa := pa_cons he pa_nil (hst _ _)
 obtain ⟨H0, G, env, sr, o⟩ := h
 rw [evI] at o
 cases r : evE F e env with
 | bad => rw [r] at o; exact o.elim
 | exc c => rw [r] at o; exact pi_enumL hg' hm' pa (hst _ _) pins s σ H R I (tE_exc sr r o)
 | ok q =>
  rw [r] at o
  cases q with
  | lst xs =>
   refine pi_enumL hg' hm' pa (hst _ _) pins s σ H R I (tE_known sr r fun v G1 H1 g1 t => ?_)
   by_cases hz : esc e = true
   ·have rp := t.rep hz
    simp only [Rep] at rp
    obtain ⟨a, vs, rfl, h2, l2⟩ := rp
    exact ⟨a, vs, rfl, sqL C.K (Same.ls g1.sub h2), o _ G1 H1 g1 ⟨it_enumL C.K (Same.ls g1.sub h2) l2, fun _ => it_enumL C.K h2 l2⟩⟩
   ·obtain ⟨a, vs, rfl, h1, l1⟩ := t.top.lst g1.sub
    exact ⟨a, vs, rfl, sqL C.K h1, o _ G1 H1 g1 ⟨it_enumL C.K h1 l1, fun z => absurd z hz⟩⟩
  | tup xs =>
   refine pi_enumT hg' hm' pa (hst _ _) pins s σ H R I (tE_known sr r fun v G1 H1 g1 t => ?_)
   have t' := t.top
   rcases t' with rp | z
   ·simp only [Rep] at rp
    obtain ⟨a, vs, rfl, h2, l2⟩ := rp
    rw [C.K] at h2
    exact ⟨a, vs, rfl, Same.tup g1.sub h2, o _ G1 H1 g1 ⟨it_enumT (Same.tup g1.sub h2) l2, fun z => it_enumT h2 l2⟩⟩
   ·exact z.elim
  | str z => exact pi_enumS hg' hm' pa (hst _ _) pins s σ H R I (tE_known sr r fun v G1 H1 g1 t => ⟨z, by rw [t.top.str], o _ G1 H1 g1 ⟨it_enumS z, fun _ => it_enumS z⟩⟩)
  | int _ => exact False.elim o
  | bl _ => exact False.elim o
  | non => exact False.elim o
  | exc _ => exact False.elim o
  | dct _ _ => exact False.elim o
theorem gi_zip (C : CxI Γ F W N sc k X) {elts : List Expr} {x1 : Nat} {tpos : Pos} {p q : Expr} {a b : E} {np pos : Pos} (hg : glB sc "zip" = true) (hb : Γ.bs.contains "zip" = true) (hst : ∀ env ps, starEach (p :: ps) env = (false, eval p env) :: starEach ps env) (hst2 : ∀ env ps, starEach (q :: ps) env = (false, eval q env) :: starEach ps env)
 (ha : GE X W F a p) (hb' : GE X W F b q) : GI X W F (.Tuple elts x1 tpos) (.zip a b) (.Call (.Name "zip" np) [p, q] [] pos) := by
 intro pins s σ H R I h
 refine pi_zip (gl_of C hg) (C.bs _ (List.contains_iff_mem.mp hb)) (pa_cons ha (pa_cons hb' pa_nil (hst2 _ _)) (hst _ _)) (by rw [hst, hst2]; rfl) (hst2 _ _) pins s σ H R I ?_
 obtain ⟨H0, G, env, sr, o⟩ := h
 rw [evI] at o
 refine one sr o fun x v G1 H1 g1 t sr1 o1 => one sr1 o1 fun y u G2 H2 g2 t2 sr2 o2 => ?_
 cases x <;> cases y <;> first
  | (exact False.elim o2)
  | (rename_i xs ys
     have tt := t.grow g2
     by_cases hz : (esc a && esc b) = true
     ·have z' := hz
      rw [Bool.and_eq_true] at z'
      have rp := tt.rep z'.1
      have rp2 := t2.rep z'.2
      simp only [Rep] at rp rp2
      obtain ⟨b1, vs, rfl, k1, m1⟩ := rp
      obtain ⟨b2, us, rfl, k2, m2⟩ := rp2
      exact ⟨b1, b2, vs, us, rfl, sqL C.K (Same.ls g2.sub k1), sqL C.K (Same.ls g2.sub k2), o2 _ G2 H2 (g1.trans g2) ⟨it_zip C.K (Same.ls g2.sub k1) (Same.ls g2.sub k2) m1 m2, fun _ => it_zip C.K k1 k2 m1 m2⟩⟩
     ·obtain ⟨a1, vs, rfl, h1, l1⟩ := tt.top.lst g2.sub
      obtain ⟨a2, us, rfl, h2, l2⟩ := t2.top.lst g2.sub
      exact ⟨a1, a2, vs, us, rfl, sqL C.K h1, sqL C.K h2, o2 _ G2 H2 (g1.trans g2) ⟨it_zip C.K h1 h2 l1 l2, fun z => absurd z hz⟩⟩)
end
end Ci
set_option maxHeartbeats 4000000
namespace Ci
open PySem L2
theorem cellOf_ok {env : Env} {x : Str} {c : Addr} (h : env.cells.lookup x = some c) : cellOf env x = pure c := by
 unfold cellOf
 rw [h]
def frees (names : List (Str × NameKind)) : List Str := ((names.filter fun p => p.2 == .free).map (·.1)).reverse
theorem closure_ok {scope : Scope} {env : Env} (h : ∀ y ∈ scope.names, y.2 = .free → ∃ c, env.cells.lookup y.1 = some c) : closureFor scope env = pure (clOf env (freeOf scope)) := by
 simp only [closureFor]
 have key : ∀ (names : List (Str × NameKind)) (acc : List (Str × Addr)), (∀ y ∈ names, y.2 = .free → ∃ c, env.cells.lookup y.1 = some c) →
  (forIn (m := Sem) names acc fun x r => if (x.2 == NameKind.free) = true then do
   let c ← cellOf env x.1
   pure (ForInStep.yield ((x.1, c) :: r))
   else pure (ForInStep.yield r)) = pure (clOf env (frees names) ++ acc) := by
  intro names
  induction names with
  | nil => intro acc _; rfl
  | cons p r ih =>
   intro acc hh
   obtain ⟨n, kd⟩ := p
   rw [List.forIn_cons]
   by_cases hk : (kd == NameKind.free) = true
   ·obtain ⟨c, hc⟩ := hh (n, kd) (by simp) (beq_iff_eq.mp hk)
    simp only [hk, if_true, cellOf_ok hc, pure_bind]
    rw [ih ((n, c) :: acc) fun y hy => hh y (List.mem_cons_of_mem _ hy)]
    have e : frees ((n, kd) :: r) = frees r ++ [n] := by
     unfold frees
     rw [List.filter_cons, if_pos hk, List.map_cons, List.reverse_cons]
    rw [e]
    unfold clOf
    rw [List.map_append, List.map_cons, List.map_nil, List.append_assoc]
    show _ = pure (_ ++ ([(n, (env.cells.lookup n).getD 0)] ++ acc))
    rw [show env.cells.lookup n = some c from hc]
    rfl
   ·simp only [hk, Bool.false_eq_true, if_false, pure_bind]
    rw [ih acc fun y hy => hh y (List.mem_cons_of_mem _ hy)]
    have e : frees ((n, kd) :: r) = frees r := by
     unfold frees
     rw [List.filter_cons, if_neg hk]
    rw [e]
 have := key scope.names [] h
 rw [List.append_nil] at this
 simp only [bind_pure_comp, map_pure, id_map', bind_pure]
 exact this
section
variable {Γ : Pg} {X : Cx} {W : Wd} {F : Fns} {N : List Str} {sc : Scope} {k : Nat}
theorem relab_eq {scope : Scope} (h : X.env.scope = sc) : relabel scope X.env = relab scope sc := by
 subst h
 rfl
structure CompC (N : List Str) (sc scope : Scope) (kk : Nat) (cap : List Nat) (xs : List Str) : Prop where
 kind : scope.kind = .function
 len : xs.length = kk
 nd : (xs ++ freeOf scope).Nodup
 cov : (scope.names.all fun y => decide (y.2 ≠ .cell) && (decide (y.2 ≠ .free) || (freeOf scope).contains y.1)) = true
 names : (scope.names.all fun y => decide (y.2 ≠ .local) || decide (scope.names.lookup y.1 = some .local)) = true
 slots : cap.map (fun i => N[i]?) = (freeOf scope).map some
 kX : ((freeOf scope).all fun y => decide (sc.names.lookup y = some .cell)) = true
 kY : ((freeOf scope).all fun y => decide ((relab scope sc).names.lookup y = some .cell)) = true
theorem compC_of {scope : Scope} {kk : Nat} {cap : List Nat} {xs : List Str} (h : compB N sc scope kk cap xs = true) : CompC N sc scope kk cap xs := by
 unfold compB at h
 simp only [Bool.and_eq_true] at h
 obtain ⟨⟨⟨⟨⟨⟨⟨h1, h2⟩, h3⟩, h4⟩, h5⟩, h6⟩, h7⟩, h8⟩ := h
 exact ⟨beq_iff_eq.mp h1, beq_iff_eq.mp h2, of_decide_eq_true h3, h4, h5, of_decide_eq_true h6, h7, h8⟩
theorem compSc (hN : X.N = N) (hsc : X.env.scope = sc) (ok : X.Ok) {scope : Scope} {kk : Nat} {cap : List Nat} {xs : List Str} (h : CompC N sc scope kk cap xs) : CompSc X scope xs (freeOf scope) cap := by
 have hcell : ∀ y ∈ freeOf scope, ∃ c, X.env.cells.lookup y = some c := fun y hy => ok.has y (.inl (by
  have := of_decide_eq_true (List.all_eq_true.mp h.kX y hy)
  show X.env.scope.names.lookup y = _
  rw [hsc]; exact this))
 refine ⟨h.kind, closure_ok fun y hy hf => ?_, List.all_eq_true.mpr fun y hy => ?_, h.cov, h.names, by rw [hN]; exact h.slots, List.all_eq_true.mpr fun y hy => ?_, ?_⟩
 ·have c := List.all_eq_true.mp h.cov y hy
  rw [Bool.and_eq_true, Bool.or_eq_true] at c
  rcases c.2 with z | z
  ·exact absurd hf (of_decide_eq_true z)
  ·exact hcell _ (List.contains_iff_mem.mp z)
 ·obtain ⟨c, hc⟩ := hcell y hy
  rw [hc]; rfl
 ·have := of_decide_eq_true (List.all_eq_true.mp h.kX y hy)
  refine decide_eq_true ?_
  show X.env.scope.names.lookup y = _
  rw [hsc]; exact this
 ·rw [relab_eq hsc]; exact h.kY
theorem compL_snoc {f : PV → Res (Option PV)} {x : PV} : ∀ {xs : List PV}, compL f (xs ++ [x]) = (compL f xs).bind fun ys => (f x).well.bind fun o => .ok (ys ++ o.toList)
 | [] => by
  simp only [List.nil_append, compL, Res.bind]
  cases (f x).well with
  | ok o => cases o <;> rfl
  | exc c => rfl
  | bad => rfl
 | y :: xs => by
  rw [List.cons_append]
  simp only [compL]
  rw [compL_snoc (xs := xs)]
  cases (f y).well with
  | exc c => rfl
  | bad => rfl
  | ok o =>
   show (((compL f xs).bind fun ys => (f x).well.bind fun o => .ok (ys ++ o.toList)).bind fun ys => .ok (oc o ys)) = ((compL f xs).bind fun ys => .ok (oc o ys)).bind fun ys => (f x).well.bind fun o => .ok (ys ++ o.toList)
   cases compL f xs with
   | exc c => rfl
   | bad => rfl
   | ok zs =>
    show (((f x).well.bind fun o => .ok (zs ++ o.toList)).bind fun ys => .ok (oc o ys)) = (f x).well.bind fun o2 => .ok ((oc o zs) ++ o2.toList)
    cases (f x).well with
    | exc c => rfl
    | bad => rfl
    | ok o2 => cases o <;> rfl
theorem compL_take {f : PV → Res (Option PV)} : ∀ {xs ys : List PV}, compL f xs = .ok ys → ∀ i, ∃ zs, compL f (xs.take i) = .ok zs ∧ zs.length ≤ i
 | _, _, _, 0 => ⟨[], by simp [compL], Nat.le_refl _⟩
 | [], ys, h, i + 1 => ⟨[], by simp [compL], Nat.zero_le _⟩
 | x :: xs, ys, h, i + 1 => by
  simp only [compL] at h
  obtain ⟨o, ho, h⟩ := Res.bind_ok h
  obtain ⟨zs, hz, h⟩ := Res.bind_ok h
  obtain ⟨ws, hw, hl⟩ := compL_take hz i
  refine ⟨oc o ws, ?_, ?_⟩
  ·rw [List.take_succ_cons]
   simp only [compL]
   rw [ho]
   show ((compL f (xs.take i)).bind fun ys => .ok (oc o ys)) = _
   rw [hw]
   rfl
  ·cases o with
   | none => exact Nat.le_succ_of_le hl
   | some y => exact Nat.succ_le_succ hl
theorem well_ok {α : Type} {r : Res α} {a : α} (h : r.well = .ok a) : r = .ok a := by
 cases r with
 | ok b => cases h; rfl
 | exc c => cases h
 | bad => cases h
theorem compL_at {f : PV → Res (Option PV)} {xs ys zs : List PV} {i : Nat} {x : PV} (h : compL f xs = .ok ys) (hx : xs[i]? = some x) (hz : compL f (xs.take i) = .ok zs) : ∃ o, f x = .ok o ∧ compL f (xs.take (i + 1)) = .ok (zs ++ o.toList) := by
 have e : xs.take (i + 1) = xs.take i ++ [x] := by rw [List.take_add_one, hx]; rfl
 obtain ⟨ws, hw, _⟩ := compL_take h (i + 1)
 rw [e, compL_snoc, hz] at hw
 obtain ⟨o, ho, hw⟩ := Res.bind_ok (show ((f x).well.bind fun o => Res.ok (zs ++ o.toList)) = .ok ws from hw)
 refine ⟨o, well_ok ho, ?_⟩
 rw [e, compL_snoc, hz]
 show ((f x).well.bind fun o => Res.ok (zs ++ o.toList)) = _
 rw [ho]
 rfl
theorem sr_block {H0 G H : Hp} {env : Sl} {σ : St} {cap : List Nat} {ys : List Str} (kk : Nat) (sr : SR W H0 env σ G H) (hs : cap.map (fun i => N[i]?) = ys.map some) (nd : ys.Nodup) : SR W H0 (List.replicate kk .no ++ capt env cap) (List.replicate kk none ++ inS σ cap) G H := by
 have hnd : ∀ (i j : Nat) (a : Nat), cap[i]? = some a → cap[j]? = some a → i = j := fun i j a h1 h2 => by
  have e1 : (ys.map some)[i]? = some (N[a]?) := by rw [← hs, List.getElem?_map, h1]; rfl
  have e2 : (ys.map some)[j]? = some (N[a]?) := by rw [← hs, List.getElem?_map, h2]; rfl
  rw [List.getElem?_map] at e1 e2
  obtain ⟨y1, g1, q1⟩ := Option.map_eq_some_iff.mp e1
  obtain ⟨y2, g2, q2⟩ := Option.map_eq_some_iff.mp e2
  have : y1 = y2 := Option.some.inj (q1.trans q2.symm)
  subst this
  exact nodup_ix nd g1 g2
 have inner : ∀ (j : Nat) (s : Slot), (List.replicate kk Slot.no ++ capt env cap)[j]? = some s → (j < kk ∧ s = .no) ∨ ∃ a, kk ≤ j ∧ cap[j - kk]? = some a ∧ s = env.getD a .no := fun j s e => by
  by_cases hj : j < kk
  ·rw [List.getElem?_append_left (by simpa using hj), List.getElem?_replicate, if_pos hj] at e
   cases e
   exact .inl ⟨hj, rfl⟩
  ·rw [List.getElem?_append_right (by simpa using hj), List.length_replicate] at e
   unfold capt at e
   rw [List.getElem?_map] at e
   obtain ⟨a, ha, rfl⟩ := Option.map_eq_some_iff.mp e
   exact .inr ⟨a, by omega, ha, rfl⟩
 have val : ∀ (j a : Nat), kk ≤ j → cap[j - kk]? = some a → (List.replicate kk none ++ inS σ cap)[j]? = some ((σ[a]?).join) := fun j a hj ha => by
  rw [List.getElem?_append_right (by simpa using hj), List.length_replicate]
  unfold inS
  rw [List.getElem?_map, ha]
  rfl
 refine ⟨by unfold capt inS; simp, sr.sub, sr.base, fun j s e => ?_, fun i j p q a e1 e2 e3 e4 => ?_⟩
 ·rcases inner j s e with ⟨hj, rfl⟩ | ⟨a, hj, ha, rfl⟩
  ·exact ⟨none, by rw [List.getElem?_append_left (by simpa using hj), List.getElem?_replicate, if_pos hj], trivial⟩
  ·refine ⟨_, val j a hj ha, ?_⟩
   rw [List.getD_eq_getElem?_getD]
   cases e1 : env[a]? with
   | none => exact trivial
   | some s =>
    obtain ⟨o, h1, h2⟩ := sr.slot a s e1
    rw [h1]
    exact h2
 ·rcases inner i _ e1 with ⟨_, z⟩ | ⟨b, hi, hb, z1⟩
  ·cases z
  rcases inner j _ e2 with ⟨_, z⟩ | ⟨c, hj, hc, z2⟩
  ·cases z
  rw [val i b hi hb] at e3
  rw [val j c hj hc] at e4
  have f1 : env[b]? = some (.own p) := by
   rw [List.getD_eq_getElem?_getD] at z1
   cases e : env[b]? with
   | none => rw [e] at z1; cases z1
   | some s => rw [e] at z1; exact congrArg some z1.symm
  have f2 : env[c]? = some (.own q) := by
   rw [List.getD_eq_getElem?_getD] at z2
   cases e : env[c]? with
   | none => rw [e] at z2; cases z2
   | some s => rw [e] at z2; exact congrArg some z2.symm
  have g1 : σ[b]? = some (some (.ref a)) := Option.join_eq_some_iff.mp (Option.some.inj e3)
  have g2 : σ[c]? = some (some (.ref a)) := Option.join_eq_some_iff.mp (Option.some.inj e4)
  have bc := sr.apart b c p q a f1 f2 g1 g2
  subst bc
  have := hnd _ _ b hb hc
  omega
theorem sr_forget {H0 G H : Hp} {kk : Nat} {rest env' : Sl} {σ : St} {tg : Tg} {p : PV} (hlt : tgLt kk tg = true) (e : Tg.put tg p (List.replicate kk .no ++ rest) = .ok env') (r : SR W H0 env' σ G H) : SR W H0 (List.replicate kk .no ++ rest) σ G H := by
 have key : ∀ (j : Nat) (s : Slot), (List.replicate kk Slot.no ++ rest)[j]? = some s → s ≠ .no → env'[j]? = some s := fun j s h hs => by
  have hge : ¬ j < kk := fun z => by
   rw [List.getElem?_append_left (by simpa using z), List.getElem?_replicate, if_pos z] at h
   cases h
   exact hs rfl
  unfold Tg.put at e
  split at e
  ·cases e
   unfold tgLt at hlt
   simp only [decide_eq_true_eq] at hlt
   rw [List.getElem?_set_ne (by omega)]
   exact h
  ·cases e
   unfold tgLt at hlt
   simp only [Bool.and_eq_true, decide_eq_true_eq] at hlt
   rw [List.getElem?_set_ne (by omega), List.getElem?_set_ne (by omega)]
   exact h
  ·cases e
   unfold tgLt at hlt
   simp only [Bool.and_eq_true, decide_eq_true_eq] at hlt
   rw [List.getElem?_set_ne (by omega), List.getElem?_set_ne (by omega), List.getElem?_set_ne (by omega)]
   exact h
  ·cases e
 have hlen : (List.replicate kk Slot.no ++ rest).length = σ.length := by
  rw [← r.len]
  unfold Tg.put at e
  split at e <;> first | (cases e; simp; done) | (cases e; done)
 refine ⟨hlen, r.sub, r.base, fun j s h => ?_, fun i j p q a e1 e2 e3 e4 => r.apart i j p q a (key i _ e1 (fun z => nomatch z)) (key j _ e2 (fun z => nomatch z)) e3 e4⟩
 by_cases hs : s = .no
 ·subst hs
  have : j < σ.length := by rw [← hlen]; exact (List.getElem?_eq_some_iff.mp h).1
  exact ⟨σ[j], List.getElem?_eq_getElem this, trivial⟩
 ·exact r.slot j s (key j s h hs)
end
end Ci
set_option maxHeartbeats 4000000
namespace Ci
open PySem L2
section
variable {Γ : Pg} {X : Cx} {W : Wd} {F : Fns} {N : List Str} {sc : Scope} {k : Nat}
def tN (W : Wd) (F : Fns) (e : E) : TE := fun σ H Q => ∃ H0 G env, SR W H0 env σ G H ∧ ∃ p, evE F e env = .ok p ∧ ∀ v G' H', Grow G H G' H' → Got W H0 G' H' e p v → Q v H'
def tNT (W : Wd) (F : Fns) (e : E) : TT := fun σ H Q => ∃ H0 G env, SR W H0 env σ G H ∧ ∃ b, evE F e env = .ok (.bl b) ∧ ∀ G' H', Grow G H G' H' → Q b H'
theorem tN_tE {e : E} (σ : St) (H : Hp) (Q : VK) (h : tN W F e σ H Q) : tE X W F e σ H Q := by
 obtain ⟨H0, G, env, sr, p, e1, q⟩ := h
 exact ⟨H0, G, env, sr, by rw [e1]; exact q⟩
theorem tNT_tT {e : E} (σ : St) (H : Hp) (Q : Bool → Hp → Prop) (h : tNT W F e σ H Q) : tT X W F e σ H Q := by
 obtain ⟨H0, G, env, sr, p, e1, q⟩ := h
 exact ⟨H0, G, env, sr, by rw [e1]; exact ⟨p, rfl, q⟩⟩
theorem cx_block (C : CxI Γ F W N sc k X) {scope : Scope} {kk : Nat} {cap : List Nat} {xs : List Str} (h : CompC N sc scope kk cap xs) (fp : List Addr) (s1 : Shared) (H1 : Hp) (A : Addr) : CxI Γ F W (xs ++ freeOf scope) (relab scope sc) k (compCx X (xs ++ freeOf scope) scope (clOf X.env (freeOf scope)) fp s1 H1 A) :=
 ⟨rfl, relab_eq C.hsc, rfl, h.nd, C.K, C.mg, C.gs, C.bs, C.room, fun f hf => ⟨(C.fns f hf).ex⟩, C.nov, C.cls, C.xc⟩
theorem folded {e : E} {p : Expr} (h : chkE Γ N sc e p = true) (env : Env) : ∀ x, foldedSetIterable p env x = pure x := by
 intro x
 cases p <;> first | rfl | (cases e <;> first | (exact absurd h Bool.false_ne_true) | (rename_i q; cases q <;> exact absurd h Bool.false_ne_true))
theorem foldedI {tg : Expr} {it : I} {p : Expr} (h : chkI Γ N sc tg it p = true) (env : Env) : ∀ x, foldedSetIterable p env x = pure x := by
 intro x
 cases it with
 | seq e => exact folded h env x
 | rng e => cases p <;> first | rfl | (exact absurd h Bool.false_ne_true)
 | rng2 a b => cases p <;> first | rfl | (exact absurd h Bool.false_ne_true)
 | enum e => cases p <;> first | rfl | (exact absurd h Bool.false_ne_true)
 | zip a b => cases p <;> first | rfl | (exact absurd h Bool.false_ne_true)
def CW (W : Wd) (H0 G1 H1 : Hp) (env0 : Sl) (f : PV → Res (Option PV)) (ps : List PV) (i : Nat) (ys : List V) (σ' : St) (H' : Hp) : Prop :=
 i ≤ ps.length ∧ ∃ G', Grow G1 H1 G' H' ∧ SR W H0 env0 σ' G' H' ∧ ∃ zs, compL f (ps.take i) = .ok zs ∧ zs.length ≤ i ∧ RepL W G' zs ys
theorem comp_rd (hK : W.K = X.K) {kk : Nat} {cap : List Nat} {tg : Tg} {it : I} {elt : E} {ys : List Str} (hlt : tgLt kk tg = true) (hesc : esc elt = true) (hs : cap.map (fun i => N[i]?) = ys.map some) (nd : ys.Nodup) (σ : St) (H : Hp) (Q : VK) (h : tF X W F (.comp kk cap tg it elt) σ H Q) :
 tComp (tI X W F it) kk (gT X.K tg) (tN W F elt) cap σ H Q := by
 obtain ⟨H0, G, env, sr, o⟩ := h
 rw [evE] at o
 refine ⟨H0, G, env, sr, o.bind.imp fun ps hps J G1 H1 g1 gi => ?_⟩
 by_cases hl' : ¬ ps.length < LIM
 ·rw [if_neg hl'] at hps
  exact hps.elim
 have hl := Decidable.not_not.mp hl'
 rw [if_pos hl] at hps
 generalize hf : (fun x => (tg.put x (List.replicate kk .no ++ capt env cap)).bind fun env' => (evE F elt env').bind fun y => Res.ok (some y)) = f at hps
 cases hc : compL f ps with
 | bad => rw [hc] at hps; exact hps.elim
 | exc c =>
  exfalso
  have : ∀ (l : List PV) (c : Str), compL f l ≠ .exc c := fun l => by
   induction l with
   | nil => intro c z; cases z
   | cons a l ih =>
    intro c z
    simp only [compL] at z
    rcases Res.bind_exc z with z | ⟨o1, _, z⟩
    ·cases e : f a with
     | ok _ => rw [e] at z; cases z
     | exc _ => rw [e] at z; cases z
     | bad => rw [e] at z; cases z
    ·rcases Res.bind_exc z with z | ⟨o2, _, z⟩
     ·exact ih c z
     ·cases z
  exact this _ _ hc
 | ok all =>
  rw [hc] at hps
  obtain ⟨xs, e1, fin⟩ := hps
  cases e1
  have sr1 := sr.grow g1
  refine ⟨ps.length, CW W H0 G1 H1 (List.replicate kk .no ++ capt env cap) f ps, ⟨Nat.zero_le _, G1, .refl g1.sub, sr_block kk sr1 hs nd, [], rfl, Nat.le_refl _, .nil⟩, ?_⟩
  rintro i made σ' H' ⟨hi, G', g', sr', zs, hz, hzl, l⟩
  refine ⟨by rw [l.length]; exact Nat.lt_of_le_of_lt (Nat.le_trans hzl hi) (Nat.lt_of_lt_of_le hl (by decide)), ?_⟩
  obtain ⟨ist, igo⟩ := gi.any i G' H' g'.g g'.h g'.sub
  by_cases hlast : i = ps.length
  ·refine .inl ⟨ist hlast, fun p hp => ?_⟩
   rw [hlast, List.take_length, hc] at hz
   cases hz
   exact fin p made G' H' (g1.trans g') hp l
  ·have hlt2 : i < ps.length := by omega
   obtain ⟨hgo, hyld⟩ := igo ps[i] (List.getElem?_eq_getElem hlt2)
   refine .inr ⟨hgo, hlt2, fun x H'' hy => ?_⟩
   obtain ⟨G'', g'', rx⟩ := hyld x H'' hy
   obtain ⟨o1, ho, hnext⟩ := compL_at hc (List.getElem?_eq_getElem hlt2) hz
   rw [← hf] at ho
   obtain ⟨env', he', ho⟩ := Res.bind_ok ho
   obtain ⟨y, hy', ho⟩ := Res.bind_ok ho
   cases ho
   refine gT_put hK he' (sr'.grow g'') rx fun σ2 sr2 => ⟨H0, G'', env', sr2, y, hy', fun v G3 H3 g3 t => ?_⟩
   refine ⟨hlt2, G3, g'.trans (g''.trans g3), (sr_forget hlt he' sr2).grow g3, _, hnext, ?_, ?_⟩
   ·rw [List.length_append]
    show zs.length + 1 ≤ i + 1
    omega
   ·exact (RepL.same (g''.trans g3).g zs l).append (.cons (t.rep hesc) .nil)
theorem compIf_rd (hK : W.K = X.K) {kk : Nat} {cap : List Nat} {tg : Tg} {it : I} {c elt : E} {ys : List Str} (hlt : tgLt kk tg = true) (hesc : esc elt = true) (hs : cap.map (fun i => N[i]?) = ys.map some) (nd : ys.Nodup) (σ : St) (H : Hp) (Q : VK) (h : tF X W F (.compIf kk cap tg it c elt) σ H Q) :
 tCompIf (tI X W F it) kk (gT X.K tg) (tNT W F c) (tN W F elt) cap σ H Q := by
 obtain ⟨H0, G, env, sr, o⟩ := h
 rw [evE] at o
 refine ⟨H0, G, env, sr, o.bind.imp fun ps hps J G1 H1 g1 gi => ?_⟩
 by_cases hl' : ¬ ps.length < LIM
 ·rw [if_neg hl'] at hps
  exact hps.elim
 have hl := Decidable.not_not.mp hl'
 rw [if_pos hl] at hps
 generalize hf : (fun x => (tg.put x (List.replicate kk .no ++ capt env cap)).bind fun env' => (evE F c env').bind fun t => asB t fun t => if t then (evE F elt env').bind fun y => Res.ok (some y) else .ok none) = f at hps
 cases hc : compL f ps with
 | bad => rw [hc] at hps; exact hps.elim
 | exc c =>
  exfalso
  have : ∀ (l : List PV) (c : Str), compL f l ≠ .exc c := fun l => by
   induction l with
   | nil => intro c z; cases z
   | cons a l ih =>
    intro c z
    simp only [compL] at z
    rcases Res.bind_exc z with z | ⟨o1, _, z⟩
    ·cases e : f a with
     | ok _ => rw [e] at z; cases z
     | exc _ => rw [e] at z; cases z
     | bad => rw [e] at z; cases z
    ·rcases Res.bind_exc z with z | ⟨o2, _, z⟩
     ·exact ih c z
     ·cases z
  exact this _ _ hc
 | ok all =>
  rw [hc] at hps
  obtain ⟨xs, e1, fin⟩ := hps
  cases e1
  have sr1 := sr.grow g1
  refine ⟨ps.length, CW W H0 G1 H1 (List.replicate kk .no ++ capt env cap) f ps, ⟨Nat.zero_le _, G1, .refl g1.sub, sr_block kk sr1 hs nd, [], rfl, Nat.le_refl _, .nil⟩, ?_⟩
  rintro i made σ' H' ⟨hi, G', g', sr', zs, hz, hzl, l⟩
  refine ⟨by rw [l.length]; exact Nat.lt_of_le_of_lt (Nat.le_trans hzl hi) (Nat.lt_of_lt_of_le hl (by decide)), ?_⟩
  obtain ⟨ist, igo⟩ := gi.any i G' H' g'.g g'.h g'.sub
  by_cases hlast : i = ps.length
  ·refine .inl ⟨ist hlast, fun p hp => ?_⟩
   rw [hlast, List.take_length, hc] at hz
   cases hz
   exact fin p made G' H' (g1.trans g') hp l
  ·have hlt2 : i < ps.length := by omega
   obtain ⟨hgo, hyld⟩ := igo ps[i] (List.getElem?_eq_getElem hlt2)
   refine .inr ⟨hgo, hlt2, fun x H'' hy => ?_⟩
   obtain ⟨G'', g'', rx⟩ := hyld x H'' hy
   obtain ⟨o1, ho, hnext⟩ := compL_at hc (List.getElem?_eq_getElem hlt2) hz
   rw [← hf] at ho
   obtain ⟨env', he', ho⟩ := Res.bind_ok ho
   obtain ⟨t, ht, ho⟩ := Res.bind_ok ho
   obtain ⟨b, rfl⟩ : ∃ b, t = .bl b := by
    cases t <;> first | exact ⟨_, rfl⟩ | (cases ho)
   refine gT_put hK he' (sr'.grow g'') rx fun σ2 sr2 => ⟨H0, G'', env', sr2, b, ht, fun G3 H3 g3 => ?_⟩
   have ho' : (if b = true then (evE F elt env').bind fun y => Res.ok (some y) else .ok none) = Res.ok o1 := ho
   cases b with
   | true =>
    rw [if_pos rfl] at ho'
    refine iteT ?_
    obtain ⟨y, hy', ho'⟩ := Res.bind_ok ho'
    cases ho'
    refine ⟨H0, G3, env', sr2.grow g3, y, hy', fun v G4 H4 g4 t4 => ?_⟩
    refine ⟨hlt2, G4, g'.trans (g''.trans (g3.trans g4)), (sr_forget hlt he' sr2).grow (g3.trans g4), _, hnext, ?_, ?_⟩
    ·rw [List.length_append]
     show zs.length + 1 ≤ i + 1
     omega
    ·exact (RepL.same (g''.trans (g3.trans g4)).g zs l).append (.cons (t4.rep hesc) .nil)
   | false =>
    rw [if_neg Bool.false_ne_true] at ho'
    refine iteF ?_
    cases ho'
    refine ⟨hlt2, G3, g'.trans (g''.trans g3), (sr_forget hlt he' sr2).grow g3, _, hnext, ?_, ?_⟩
    ·rw [List.length_append]
     show zs.length + 0 ≤ i + 1
     omega
    ·show RepL W G3 (zs ++ []) made
     rw [List.append_nil]
     exact RepL.same (g''.trans g3).g zs l
theorem gf_comp (C : CxI Γ F W N sc k X) {kk : Nat} {cap : List Nat} {tg : Tg} {it : I} {elt : E} {ptg pit pelt : Expr} {scope : Scope} {pos : Pos} (h : CompC N sc scope kk cap (tgNames ptg)) (hlt : tgLt kk tg = true) (hesc : esc elt = true) (hi : GI X W F ptg it pit) (hfs : ∀ x, foldedSetIterable pit X.env x = pure x)
 (htg : chkTg (tgNames ptg ++ freeOf scope) (relab scope sc) false tg ptg = true) (he : ∀ Y, CxI Γ F W (tgNames ptg ++ freeOf scope) (relab scope sc) k Y → GE Y W F elt pelt) : GF X W F (.comp kk cap tg it elt) (.ListComp pelt [⟨ptg, pit, [], 0⟩] scope pos) := by
 intro pins s σ H Q I hq
 have nd2 : (freeOf scope).Nodup := (List.nodup_append.mp h.nd).2.1
 have rd := comp_rd (N := N) C.K hlt hesc h.slots nd2 σ H Q hq
 have := pe_comp (g := gT X.K tg) (te := tN W F elt) (xs := tgNames ptg) (ys := freeOf scope) (is := cap) (pos := pos) C.calm (compSc C.hN C.hsc I.ok h) hi
  (fun fp s1 H1 A => pg_T (fn := false) (X := compCx X (tgNames ptg ++ freeOf scope) scope (clOf X.env (freeOf scope)) fp s1 H1 A) rfl h.nd (relab_eq C.hsc) rfl (fun z => nomatch z) htg)
  (fun fp s1 H1 A => L2.PE.imp (he _ (cx_block C h fp s1 H1 A)) fun σ H Q z => tN_tE σ H Q z) hfs pins s σ H Q I
 rw [h.len] at this
 exact this rd
theorem gf_compIf (C : CxI Γ F W N sc k X) {kk : Nat} {cap : List Nat} {tg : Tg} {it : I} {c elt : E} {ptg pit pc pelt : Expr} {scope : Scope} {pos : Pos} (h : CompC N sc scope kk cap (tgNames ptg)) (hlt : tgLt kk tg = true) (hesc : esc elt = true) (hi : GI X W F ptg it pit) (hfs : ∀ x, foldedSetIterable pit X.env x = pure x)
 (htg : chkTg (tgNames ptg ++ freeOf scope) (relab scope sc) false tg ptg = true) (hc : ∀ Y, CxI Γ F W (tgNames ptg ++ freeOf scope) (relab scope sc) k Y → GT Y W F c pc) (he : ∀ Y, CxI Γ F W (tgNames ptg ++ freeOf scope) (relab scope sc) k Y → GE Y W F elt pelt) :
 GF X W F (.compIf kk cap tg it c elt) (.ListComp pelt [⟨ptg, pit, [pc], 0⟩] scope pos) := by
 intro pins s σ H Q I hq
 have nd2 : (freeOf scope).Nodup := (List.nodup_append.mp h.nd).2.1
 have rd := compIf_rd (N := N) C.K hlt hesc h.slots nd2 σ H Q hq
 have := pe_compIf (g := gT X.K tg) (tt := tNT W F c) (te := tN W F elt) (xs := tgNames ptg) (ys := freeOf scope) (is := cap) (pos := pos) C.calm (compSc C.hN C.hsc I.ok h) hi
  (fun fp s1 H1 A => pg_T (fn := false) (X := compCx X (tgNames ptg ++ freeOf scope) scope (clOf X.env (freeOf scope)) fp s1 H1 A) rfl h.nd (relab_eq C.hsc) rfl (fun z => nomatch z) htg)
  (fun fp s1 H1 A => L2.PT.imp (hc _ (cx_block C h fp s1 H1 A)) fun σ H Q z => tNT_tT σ H Q z)
  (fun fp s1 H1 A => L2.PE.imp (he _ (cx_block C h fp s1 H1 A)) fun σ H Q z => tN_tE σ H Q z) hfs pins s σ H Q I
 rw [h.len] at this
 exact this rd
end
end Ci
set_option maxHeartbeats 8000000
namespace Ci
open PySem L2
section
variable {Γ : Pg} {W : Wd} {F : Fns} {k : Nat}
theorem gt_val {X : Cx} {e : E} {p : Expr} (h : GE X W F e p) (he : ∀ whole, isTrue p X.env whole = (do let v ← whole; standAt p.pos; holding [v] (truthy v))) : GT X W F e p :=
 L2.PT.imp (pt_val h he) fun σ H Q hq => tB_of σ H Q hq
theorem few_ok {N : List Str} {sc : Scope} : ∀ {es : Es} {ps : List Expr}, chkEs Γ N sc es ps = true → ∀ env pos, (backTo pos (starEach ps env)).all (fun x => !x.1) = true
 | .nil, [], _, _, _ => rfl
 | .cons e es, p :: ps, h, env, pos => by
  replace h := and_of h
  rw [notStar h.1]
  show (true && (backTo pos (starEach ps env)).all (fun x => !x.1)) = true
  rw [few_ok h.2]
  rfl
 | .nil, _ :: _, h, _, _ => absurd h Bool.false_ne_true
 | .cons _ _, [], h, _, _ => absurd h Bool.false_ne_true
theorem len_ok {N : List Str} {sc : Scope} : ∀ {es : Es} {ps : List Expr}, chkEs Γ N sc es ps = true → ps.length = lenEs es
 | .nil, [], _ => rfl
 | .cons e es, p :: ps, h => by
  replace h := and_of h
  rw [List.length_cons, len_ok h.2]
  rfl
 | .nil, _ :: _, h => absurd h Bool.false_ne_true
 | .cons _ _, [], h => absurd h Bool.false_ne_true
structure Snd (X : Cx) (W : Wd) (F : Fns) (e : E) (p : Expr) : Prop where
 ge : GE X W F e p
 gt : gtOk e = true → GT X W F e p
 gw : gtOk e = true → ∀ op vs pos, p = .BoolOp op vs pos → GW X W F e p
theorem snd_val {X : Cx} {e : E} {p : Expr} (h : GE X W F e p) (he : ∀ whole, isTrue p X.env whole = (do let v ← whole; standAt p.pos; holding [v] (truthy v))) (hb : ∀ op vs pos, p ≠ .BoolOp op vs pos) : Snd X W F e p :=
 ⟨h, fun _ => gt_val h he, fun _ op vs pos e => absurd e (hb op vs pos)⟩
theorem isTrue_plain {p : Expr} {env : Env} (h : (match p with | .UnaryOp .Not _ _ => false | .BoolOp .. => false | .IfExp .. => false | .Compare .. => false | _ => true) = true) : ∀ whole, isTrue p env whole = (do let v ← whole; standAt p.pos; holding [v] (truthy v)) := by
 intro whole
 cases p with
 | UnaryOp op a pos => cases op <;> first | rfl | (exact absurd h Bool.false_ne_true)
 | BoolOp _ _ _ => exact absurd h Bool.false_ne_true
 | IfExp _ _ _ _ => exact absurd h Bool.false_ne_true
 | Compare _ _ _ _ => exact absurd h Bool.false_ne_true
 | _ => rfl
theorem attr_plain {po : Expr} {m : Str} {env : Env} (h : (match po with | .Call .. => false | _ => true) = true) : attributeBase po m env (eval po env) = eval po env := by
 cases po <;> first | rfl | (exact absurd h Bool.false_ne_true)
mutual
theorem sndE : ∀ (e : E) {N : List Str} {sc : Scope} {X : Cx} (C : CxI Γ F W N sc k X) (p : Expr), chkE Γ N sc e p = true → Snd X W F e p
 | .var i, N, sc, X, C, p, h => by
  cases p <;> first | (exact absurd h Bool.false_ne_true) | skip
  exact snd_val (ge_var C h) (fun _ => rfl) (fun _ _ _ z => nomatch z)
 | .tmp i, N, sc, X, C, p, h => by
  cases p <;> first | (exact absurd h Bool.false_ne_true) | skip
  exact snd_val (ge_tmp C h) (fun _ => rfl) (fun _ _ _ z => nomatch z)
 | .cst q, N, sc, X, C, p, h => by
  cases p <;> first | (cases q <;> exact absurd h Bool.false_ne_true) | skip
  rename_i c _ _
  cases q <;> cases c <;> first | (exact absurd h Bool.false_ne_true) | skip
  ·exact snd_val (ge_const pe_non fun G => .n) (fun _ => rfl) (fun _ _ _ z => nomatch z)
  ·cases eq_of_beq h; exact snd_val (ge_const pe_bl fun G => .b) (fun _ => rfl) (fun _ _ _ z => nomatch z)
  ·cases eq_of_beq h; exact snd_val (ge_const pe_int fun G => .i) (fun _ => rfl) (fun _ _ _ z => nomatch z)
  ·cases eq_of_beq h; exact snd_val (ge_const pe_str fun G => .s) (fun _ => rfl) (fun _ _ _ z => nomatch z)
 | .glob g q, N, sc, X, C, p, h => by
  cases p <;> first | (exact absurd h Bool.false_ne_true) | skip
  exact snd_val (ge_glob C h) (fun _ => rfl) (fun _ _ _ z => nomatch z)
 | .call f as, N, sc, X, C, p, h => by
  cases p <;> first | (exact absurd h Bool.false_ne_true) | skip
  rename_i fn args kws pos
  cases fn <;> first | (exact absurd h Bool.false_ne_true) | skip
  rename_i g np
  cases kws with
  | cons _ _ => exact absurd h Bool.false_ne_true
  | nil =>
   replace h := and_of h
   try simp only [Bool.and_eq_true, beq_iff_eq] at h
   obtain ⟨⟨⟨⟨⟨rfl, h1⟩, h2⟩, h3⟩, h4⟩, h5⟩ := h
   have ga := sndEs as C args h5
   cases as with
   | nil =>
    cases args with
    | nil => exact snd_val (ge_call0 C h1 h2 h3) (fun _ => rfl) (fun _ _ _ z => nomatch z)
    | cons _ _ => exact absurd h5 Bool.false_ne_true
   | cons e es =>
    cases args with
    | nil => exact absurd h5 Bool.false_ne_true
    | cons q qs =>
     have h6 := h5
     replace h6 := and_of h6
     exact snd_val (ge_call C h1 h2 h3 h4 ga (notStar h6.1 _ _) (star_plain h6.2 _ _)) (fun _ => rfl) (fun _ _ _ z => nomatch z)
 | .blt b as, N, sc, X, C, p, h => by
  cases p <;> first | (exact absurd h Bool.false_ne_true) | skip
  rename_i fn args kws pos
  cases fn <;> first | (exact absurd h Bool.false_ne_true) | skip
  rename_i g np
  cases kws with
  | cons _ _ => exact absurd h Bool.false_ne_true
  | nil =>
   replace h := and_of h
   try simp only [Bool.and_eq_true, beq_iff_eq] at h
   obtain ⟨⟨⟨⟨rfl, h1⟩, h2⟩, h3⟩, h5⟩ := h
   have ga := sndEs as C args h5
   cases as with
   | nil => exact absurd h3 Bool.false_ne_true
   | cons e es =>
    cases args with
    | nil => exact absurd h5 Bool.false_ne_true
    | cons q qs =>
     have h6 := h5
     replace h6 := and_of h6
     exact snd_val (ge_blt C b h1 h2 ga (notStar h6.1 _ _) (star_plain h6.2 _ _)) (fun _ => rfl) (fun _ _ _ z => nomatch z)
 | .ty t a, N, sc, X, C, p, h => by
  cases p <;> first | (exact absurd h Bool.false_ne_true) | skip
  rename_i fn args kws pos
  cases fn <;> first | (exact absurd h Bool.false_ne_true) | skip
  rename_i g np
  match args, kws, h with
  | [pa, .Name tn tp], [], h =>
   replace h := and_of h
   try simp only [Bool.and_eq_true, beq_iff_eq] at h
   obtain ⟨⟨⟨⟨⟨⟨rfl, h1⟩, h2⟩, rfl⟩, h3⟩, h4⟩, h5⟩ := h
   exact snd_val (ge_ty C h1 h2 h3 h4 (sndE a C pa h5).ge (notStar h5)) (fun _ => rfl) (fun _ _ _ z => nomatch z)
  | [], _, h => exact absurd h Bool.false_ne_true
  | [_], _, h => exact absurd h Bool.false_ne_true
  | _ :: pb :: _ :: _, _, h => cases pb <;> exact absurd h Bool.false_ne_true
  | [pa, pb], _ :: _, h => cases pb <;> exact absurd h Bool.false_ne_true
  | [pa, pb], [], h => cases pb <;> first | (exact absurd h Bool.false_ne_true) | skip
                       rename_i tn tp
                       replace h := and_of h
                       try simp only [Bool.and_eq_true, beq_iff_eq] at h
                       obtain ⟨⟨⟨⟨⟨⟨rfl, h1⟩, h2⟩, rfl⟩, h3⟩, h4⟩, h5⟩ := h
                       exact snd_val (ge_ty C h1 h2 h3 h4 (sndE a C pa h5).ge (notStar h5)) (fun _ => rfl) (fun _ _ _ z => nomatch z)
 | .isx c a, N, sc, X, C, p, h => by
  cases p <;> first | (exact absurd h Bool.false_ne_true) | skip
  rename_i fn args kws pos
  cases fn <;> first | (exact absurd h Bool.false_ne_true) | skip
  rename_i g np
  match args, kws, h with
  | [], _, h => exact absurd h Bool.false_ne_true
  | [_], _, h => exact absurd h Bool.false_ne_true
  | _ :: pb :: _ :: _, _, h => cases pb <;> exact absurd h Bool.false_ne_true
  | [pa, pb], _ :: _, h => cases pb <;> exact absurd h Bool.false_ne_true
  | [pa, pb], [], h => cases pb <;> first | (exact absurd h Bool.false_ne_true) | skip
                       rename_i tn tp
                       replace h := and_of h
                       try simp only [Bool.and_eq_true] at h
                       obtain ⟨⟨⟨⟨⟨⟨⟨e1, h1⟩, h2⟩, e2⟩, h3⟩, h4⟩, h5⟩, h6⟩ := h
                       cases beq_iff_eq.mp e1
                       cases beq_iff_eq.mp e2
                       exact snd_val (ge_isx C h1 h2 h3 h4 h5 (sndE a C pa h6).ge (notStar h6) C.nov) (fun _ => rfl) (fun _ _ _ z => nomatch z)
 | .mth m o as, N, sc, X, C, p, h => by
  cases p <;> first | (exact absurd h Bool.false_ne_true) | skip
  rename_i fn args kws pos
  cases fn <;> first | (exact absurd h Bool.false_ne_true) | skip
  rename_i po attr apos
  cases kws with
  | cons _ _ => exact absurd h Bool.false_ne_true
  | nil =>
   replace h := and_of h
   simp only [Bool.and_eq_true] at h
   obtain ⟨⟨⟨⟨⟨⟨e1, h1⟩, h2⟩, h3⟩, h4⟩, h5⟩, h6⟩ := h
   cases beq_iff_eq.mp e1
   have ga := sndEs as C args h5
   cases as with
   | nil => exact absurd h1 Bool.false_ne_true
   | cons e es =>
    cases args with
    | nil => exact absurd h5 Bool.false_ne_true
    | cons q qs =>
     have h7 := h5
     replace h7 := and_of h7
     have hl := len_ok h5
     refine snd_val (ge_mth C (sndE o C po h4).ge ga (attr_plain h6) ?_ h3 (notStar h7.1 _ _) (star_plain h7.2 _ _)) (fun _ => rfl) (fun _ _ _ z => nomatch z)
     rw [few_ok h5]
     have h2' := of_decide_eq_true h2
     refine Bool.and_eq_true_iff.mpr ⟨rfl, decide_eq_true ?_⟩
     rw [hl]
     exact h2'
 | .bin o a b, N, sc, X, C, p, h => by
  cases p <;> first | (exact absurd h Bool.false_ne_true) | skip
  replace h := and_of h
  try simp only [Bool.and_eq_true, decide_eq_true_eq] at h
  obtain ⟨⟨rfl, h1⟩, h2⟩ := h
  exact snd_val (ge_bin C (sndE a C _ h1).ge (sndE b C _ h2).ge) (fun _ => rfl) (fun _ _ _ z => nomatch z)
 | .cmp o a b, N, sc, X, C, p, h => by
  cases p <;> first | (exact absurd h Bool.false_ne_true) | skip
  rename_i pa ops cs pos
  match ops, cs, h with
  | [op], [pb], h =>
   replace h := and_of h
   try simp only [Bool.and_eq_true, decide_eq_true_eq] at h
   obtain ⟨⟨rfl, h1⟩, h2⟩ := h
   exact ⟨ge_cmp C (sndE a C _ h1).ge (sndE b C _ h2).ge (no_mark h2 _), fun _ => gt_cmp C (sndE a C _ h1).ge (sndE b C _ h2).ge (no_mark h2 _), (fun _ _ _ _ z => nomatch z)⟩
  | [], _, h => exact absurd h Bool.false_ne_true
  | _ :: _ :: _, _, h => exact absurd h Bool.false_ne_true
  | [_], [], h => exact absurd h Bool.false_ne_true
  | [_], _ :: _ :: _, h => exact absurd h Bool.false_ne_true
 | .ch o1 o2 a b c, N, sc, X, C, p, h => by
  cases p <;> first | (exact absurd h Bool.false_ne_true) | skip
  rename_i pa ops cs pos
  match ops, cs, h with
  | [op1, op2], [pb, pc], h =>
   replace h := and_of h
   try simp only [Bool.and_eq_true, decide_eq_true_eq] at h
   obtain ⟨⟨⟨⟨rfl, rfl⟩, h1⟩, h2⟩, h3⟩ := h
   have hm : lastMarks [opC o1, opC o2] [pb, pc] = false := no_mark h3 _
   exact ⟨ge_ch C (sndE a C _ h1).ge (sndE b C _ h2).ge (sndE c C _ h3).ge hm, fun _ => gt_ch C (sndE a C _ h1).ge (sndE b C _ h2).ge (sndE c C _ h3).ge hm, (fun _ _ _ _ z => nomatch z)⟩
  | [], _, h => exact absurd h Bool.false_ne_true
  | [_], _, h => exact absurd h Bool.false_ne_true
  | _ :: _ :: _ :: _, _, h => exact absurd h Bool.false_ne_true
  | [_, _], [], h => exact absurd h Bool.false_ne_true
  | [_, _], [_], h => exact absurd h Bool.false_ne_true
  | [_, _], _ :: _ :: _ :: _, h => exact absurd h Bool.false_ne_true
 | .not a, N, sc, X, C, p, h => by
  cases p <;> first | (exact absurd h Bool.false_ne_true) | skip
  rename_i op pa pos
  cases op <;> first | (exact absurd h Bool.false_ne_true) | skip
  have h : chkE Γ N sc a pa = true := h
  have s := sndE a C pa h
  exact ⟨ge_not s.ge, fun z => gt_not (s.gt (by simpa only [gtOk] using z)), (fun _ _ _ _ z => nomatch z)⟩
 | .neg a, N, sc, X, C, p, h => by
  cases p <;> first | (exact absurd h Bool.false_ne_true) | skip
  rename_i op pa pos
  cases op <;> first | (exact absurd h Bool.false_ne_true) | skip
  have h : chkE Γ N sc a pa = true := h
  exact snd_val (ge_neg (sndE a C pa h).ge) (fun _ => rfl) (fun _ _ _ z => nomatch z)
 | .and a b, N, sc, X, C, p, h => by
  cases p <;> first | (exact absurd h Bool.false_ne_true) | skip
  rename_i op vs pos
  cases op with
  | Or => exact absurd h Bool.false_ne_true
  | And =>
   match vs, h with
   | [], h => exact absurd h Bool.false_ne_true
   | [_], h => exact absurd h Bool.false_ne_true
   | [pa, pb], h =>
    replace h := and_of h
    try simp only [Bool.and_eq_true] at h
    obtain ⟨⟨he, h1⟩, h2⟩ := h
    have sa := sndE a C pa h1
    have sb := sndE b C pb h2
    have gw : gtOk (.and a b) = true → GW X W F (.and a b) (.BoolOp .And [pa, pb] pos) := fun z => by
     simp only [gtOk, Bool.and_eq_true] at z
     exact gw_and (sa.gt z.1) (pw_and1 (sb.gt z.2))
    exact ⟨ge_and he sa.ge (pe_one sb.ge), fun z => (gw z).pt, fun z _ _ _ _ => gw z⟩
   | pa :: pb :: pc :: r, h =>
    replace h := and_of h
    try simp only [Bool.and_eq_true] at h
    obtain ⟨⟨he, h1⟩, h2⟩ := h
    have sa := sndE a C pa h1
    have sb := sndE b C _ h2
    have gw : gtOk (.and a b) = true → GW X W F (.and a b) (.BoolOp .And (pa :: pb :: pc :: r) pos) := fun z => by
     simp only [gtOk, Bool.and_eq_true] at z
     exact gw_and (sa.gt z.1) (sb.gw z.2 _ _ _ rfl)
    exact ⟨ge_and he sa.ge sb.ge, fun z => (gw z).pt, fun z _ _ _ _ => gw z⟩
 | .or a b, N, sc, X, C, p, h => by
  cases p <;> first | (exact absurd h Bool.false_ne_true) | skip
  rename_i op vs pos
  cases op with
  | And => exact absurd h Bool.false_ne_true
  | Or =>
   match vs, h with
   | [], h => exact absurd h Bool.false_ne_true
   | [_], h => exact absurd h Bool.false_ne_true
   | [pa, pb], h =>
    replace h := and_of h
    try simp only [Bool.and_eq_true] at h
    obtain ⟨⟨he, h1⟩, h2⟩ := h
    have sa := sndE a C pa h1
    have sb := sndE b C pb h2
    have gw : gtOk (.or a b) = true → GW X W F (.or a b) (.BoolOp .Or [pa, pb] pos) := fun z => by
     simp only [gtOk, Bool.and_eq_true] at z
     exact gw_or (sa.gt z.1) (pw_or1 (sb.gt z.2))
    exact ⟨ge_or he sa.ge (pe_one sb.ge), fun z => (gw z).pt, fun z _ _ _ _ => gw z⟩
   | pa :: pb :: pc :: r, h =>
    replace h := and_of h
    try simp only [Bool.and_eq_true] at h
    obtain ⟨⟨he, h1⟩, h2⟩ := h
    have sa := sndE a C pa h1
    have sb := sndE b C _ h2
    have gw : gtOk (.or a b) = true → GW X W F (.or a b) (.BoolOp .Or (pa :: pb :: pc :: r) pos) := fun z => by
     simp only [gtOk, Bool.and_eq_true] at z
     exact gw_or (sa.gt z.1) (sb.gw z.2 _ _ _ rfl)
    exact ⟨ge_or he sa.ge sb.ge, fun z => (gw z).pt, fun z _ _ _ _ => gw z⟩
 | .ite c a b, N, sc, X, C, p, h => by
  cases p <;> first | (exact absurd h Bool.false_ne_true) | skip
  replace h := and_of h
  try simp only [Bool.and_eq_true] at h
  obtain ⟨⟨⟨⟨⟨h0, h1⟩, h2⟩, h3⟩, h4⟩, h5⟩ := h
  exact ⟨ge_ite h1 h2 ((sndE c C _ h3).gt h0) (sndE a C _ h4).ge (sndE b C _ h5).ge, (fun z => nomatch z), (fun _ _ _ _ z => nomatch z)⟩
 | .tup as, N, sc, X, C, p, h => by
  cases p <;> first | (exact absurd h Bool.false_ne_true) | skip
  replace h := and_of h
  try simp only [Bool.and_eq_true, decide_eq_true_eq] at h
  exact snd_val (ge_tup h.1.1 h.1.2 (sndEs as C _ h.2)) (fun _ => rfl) (fun _ _ _ z => nomatch z)
 | .lst as, N, sc, X, C, p, h => by
  cases p <;> first | (exact absurd h Bool.false_ne_true) | skip
  replace h := and_of h
  try simp only [Bool.and_eq_true, decide_eq_true_eq] at h
  exact snd_val ((gf_lst h.1.1 h.1.2 (sndEs as C _ h.2)).ge lst_is) (fun _ => rfl) (fun _ _ _ z => nomatch z)
 | .sub a b, N, sc, X, C, p, h => by
  cases p <;> first | (exact absurd h Bool.false_ne_true) | skip
  replace h := and_of h
  try simp only [Bool.and_eq_true] at h
  exact snd_val (ge_sub C (sndE a C _ h.1).ge (sndE b C _ h.2).ge (plain_ix h.2)) (fun _ => rfl) (fun _ _ _ z => nomatch z)
 | .slice a lo hi, N, sc, X, C, p, h => by
  cases p <;> first | (exact absurd h Bool.false_ne_true) | skip
  rename_i pa ps pos
  cases ps <;> first | (exact absurd h Bool.false_ne_true) | skip
  rename_i pl ph pst p2
  cases pst with
  | some _ => exact absurd h Bool.false_ne_true
  | none =>
   replace h := and_of h
   try simp only [Bool.and_eq_true] at h
   exact snd_val (ge_slice C (sndE a C _ h.1.1).ge (sndO lo C pl h.1.2) (sndO hi C ph h.2)) (fun _ => rfl) (fun _ _ _ z => nomatch z)
 | .comp kk cap tg it elt, N, sc, X, C, p, h => by
  cases p <;> first | (exact absurd h Bool.false_ne_true) | skip
  rename_i pelt gens scope pos
  match gens, h with
  | [⟨ptg, pit, [], asy⟩], h =>
   replace h := and_of h
   simp only [Bool.and_eq_true] at h
   obtain ⟨⟨⟨⟨⟨⟨h1, h2⟩, h3⟩, h4⟩, h5⟩, h6⟩, hasy⟩ := h
   have hasy := of_decide_eq_true hasy
   subst hasy
   refine snd_val ((gf_comp C (compC_of h1) h2 h3 (sndI it C ptg pit h4) (foldedI h4 _) h5 fun Y CY => (sndE elt CY pelt h6).ge).ge fun env q e => ?_) (fun _ => rfl) (fun _ _ _ z => nomatch z)
   rw [evE] at e
   obtain ⟨ps, _, e⟩ := Res.bind_ok e
   split at e
   ·obtain ⟨ys, _, e⟩ := Res.bind_ok e
    cases e
    exact ⟨_, rfl⟩
   ·cases e
  | [], h => exact absurd h Bool.false_ne_true
  | ⟨_, _, [], _⟩ :: _ :: _, h => exact absurd h Bool.false_ne_true
  | ⟨_, _, [_], _⟩ :: _ :: _, h => exact absurd h Bool.false_ne_true
  | ⟨_, _, _ :: _ :: _, _⟩ :: _ :: _, h => exact absurd h Bool.false_ne_true
  | [⟨_, _, _ :: _, _⟩], h => exact absurd h Bool.false_ne_true
 | .compIf kk cap tg it c elt, N, sc, X, C, p, h => by
  cases p <;> first | (exact absurd h Bool.false_ne_true) | skip
  rename_i pelt gens scope pos
  match gens, h with
  | [⟨ptg, pit, [pc], asy⟩], h =>
   replace h := and_of h
   simp only [Bool.and_eq_true] at h
   obtain ⟨⟨⟨⟨⟨⟨⟨⟨h0, h1⟩, h2⟩, h3⟩, h4⟩, h5⟩, h6⟩, h7⟩, hasy⟩ := h
   have hasy := of_decide_eq_true hasy
   subst hasy
   refine snd_val ((gf_compIf C (compC_of h1) h2 h3 (sndI it C ptg pit h4) (foldedI h4 _) h5 (fun Y CY => (sndE c CY pc h6).gt h0) fun Y CY => (sndE elt CY pelt h7).ge).ge fun env q e => ?_) (fun _ => rfl) (fun _ _ _ z => nomatch z)
   rw [evE] at e
   obtain ⟨ps, _, e⟩ := Res.bind_ok e
   split at e
   ·obtain ⟨ys, _, e⟩ := Res.bind_ok e
    cases e
    exact ⟨_, rfl⟩
   ·cases e
  | [], h => exact absurd h Bool.false_ne_true
  | ⟨_, _, [], _⟩ :: _ :: _, h => exact absurd h Bool.false_ne_true
  | ⟨_, _, [_], _⟩ :: _ :: _, h => exact absurd h Bool.false_ne_true
  | ⟨_, _, _ :: _ :: _, _⟩ :: _ :: _, h => exact absurd h Bool.false_ne_true
  | [⟨_, _, [], _⟩], h => exact absurd h Bool.false_ne_true
  | [⟨_, _, _ :: _ :: _, _⟩], h => exact absurd h Bool.false_ne_true
theorem sndEs : ∀ (es : Es) {N : List Str} {sc : Scope} {X : Cx} (C : CxI Γ F W N sc k X) (ps : List Expr), chkEs Γ N sc es ps = true → GA X W F es ps
 | .nil, N, sc, X, C, ps, h => by
  cases ps with
  | nil => exact ga_nil
  | cons _ _ => exact absurd h Bool.false_ne_true
 | .cons e es, N, sc, X, C, ps, h => by
  cases ps with
  | nil => exact absurd h Bool.false_ne_true
  | cons p ps =>
   replace h := and_of h
   exact ga_cons (sndE e C p h.1).ge (sndEs es C ps h.2) (notStar h.1 _ _)
theorem sndO : ∀ (o : Oe) {N : List Str} {sc : Scope} {X : Cx} (C : CxI Γ F W N sc k X) (p : Option Expr), chkO Γ N sc o p = true → PO X p (tOp_ X W F o)
 | .no, N, sc, X, C, p, h => by
  cases p with
  | none => exact go_none
  | some _ => exact absurd h Bool.false_ne_true
 | .some e, N, sc, X, C, p, h => by
  cases p with
  | none => exact absurd h Bool.false_ne_true
  | some p =>
   exact go_some (sndE e C p h).ge
theorem sndI : ∀ (it : I) {N : List Str} {sc : Scope} {X : Cx} (C : CxI Γ F W N sc k X) (tg p : Expr), chkI Γ N sc tg it p = true → GI X W F tg it p
 | .seq e, N, sc, X, C, tg, p, h => by
  exact gi_seq C (sndE e C p h).ge
 | .rng e, N, sc, X, C, tg, p, h => by
  cases p <;> first | (exact absurd h Bool.false_ne_true) | skip
  rename_i fn args kws pos
  cases fn <;> first | (exact absurd h Bool.false_ne_true) | skip
  match args, kws, h with
  | [q], [], h =>
   replace h := and_of h
   try simp only [Bool.and_eq_true] at h
   obtain ⟨⟨⟨e1, h1⟩, h2⟩, h3⟩ := h
   cases beq_iff_eq.mp e1
   exact gi_rng C h1 h2 (notStar h3) (sndE e C q h3).ge
  | [], _, h => exact absurd h Bool.false_ne_true
  | _ :: _ :: _, _, h => exact absurd h Bool.false_ne_true
  | [_], _ :: _, h => exact absurd h Bool.false_ne_true
 | .rng2 a b, N, sc, X, C, tg, p, h => by
  cases p <;> first | (exact absurd h Bool.false_ne_true) | skip
  rename_i fn args kws pos
  cases fn <;> first | (exact absurd h Bool.false_ne_true) | skip
  match args, kws, h with
  | [q, r], [], h =>
   replace h := and_of h
   try simp only [Bool.and_eq_true] at h
   obtain ⟨⟨⟨⟨e1, h1⟩, h2⟩, h3⟩, h4⟩ := h
   cases beq_iff_eq.mp e1
   exact gi_rng2 C h1 h2 (notStar h3) (notStar h4) (sndE a C q h3).ge (sndE b C r h4).ge
  | [], _, h => exact absurd h Bool.false_ne_true
  | [_], _, h => exact absurd h Bool.false_ne_true
  | _ :: _ :: _ :: _, _, h => exact absurd h Bool.false_ne_true
  | [_, _], _ :: _, h => exact absurd h Bool.false_ne_true
 | .enum e, N, sc, X, C, tg, p, h => by
  cases p <;> first | (exact absurd h Bool.false_ne_true) | skip
  rename_i fn args kws pos
  cases fn <;> first | (exact absurd h Bool.false_ne_true) | skip
  match args, kws, h with
  | [q], [], h =>
   replace h := and_of h
   try simp only [Bool.and_eq_true] at h
   obtain ⟨⟨⟨⟨h0, e1⟩, h1⟩, h2⟩, h3⟩ := h
   cases beq_iff_eq.mp e1
   cases tg <;> first | (exact absurd h0 Bool.false_ne_true) | skip
   exact gi_enum C h1 h2 (notStar h3) (sndE e C q h3).ge
  | [], _, h => exact absurd h Bool.false_ne_true
  | _ :: _ :: _, _, h => exact absurd h Bool.false_ne_true
  | [_], _ :: _, h => exact absurd h Bool.false_ne_true
 | .zip a b, N, sc, X, C, tg, p, h => by
  cases p <;> first | (exact absurd h Bool.false_ne_true) | skip
  rename_i fn args kws pos
  cases fn <;> first | (exact absurd h Bool.false_ne_true) | skip
  match args, kws, h with
  | [q, r], [], h =>
   replace h := and_of h
   try simp only [Bool.and_eq_true] at h
   obtain ⟨⟨⟨⟨⟨h0, e1⟩, h1⟩, h2⟩, h3⟩, h4⟩ := h
   cases beq_iff_eq.mp e1
   cases tg <;> first | (exact absurd h0 Bool.false_ne_true) | skip
   exact gi_zip C h1 h2 (notStar h3) (notStar h4) (sndE a C q h3).ge (sndE b C r h4).ge
  | [], _, h => exact absurd h Bool.false_ne_true
  | [_], _, h => exact absurd h Bool.false_ne_true
  | _ :: _ :: _ :: _, _, h => exact absurd h Bool.false_ne_true
  | [_, _], _ :: _, h => exact absurd h Bool.false_ne_true
end
end
end Ci
set_option maxHeartbeats 4000000
namespace L2
open PySem PySem.Spec PyProof.Rows
section
variable {X : Cx} {scope : Scope} {xs ys : List Str} {is : List Nat}
theorem ps_setComp {i₀ : Nat} {x₀ : Str} {pos' spos : Pos} {elt tg iter : Expr} {pos : Pos} {wi : TI} {g : TG} {te : TE} (hN₀ : X.N.Nodup) (hi₀ : X.N[i₀]? = some x₀) (hx₀ : Loc X.env.scope x₀) (hc : X.calm = true) (S : CompSc X scope xs ys is) (hi : PI X tg iter wi)
 (hg : ∀ fp s1 H1 C, PG (compCx X (xs ++ ys) scope (clOf X.env ys) fp s1 H1 C) tg g) (he : ∀ fp s1 H1 C, PE (compCx X (xs ++ ys) scope (clOf X.env ys) fp s1 H1 C) elt te)
 (hsw : swapsWith (.ListComp elt [⟨tg, iter, [], 0⟩] scope pos) (some (.Name x₀ pos')) spos.line X.env = pure true := by rfl)
 (hs : ∀ x, foldedSetIterable iter X.env x = pure x := by intro _; rfl) (hf₀ : X.fn x₀ = true ∨ X.env.scope.names.lookup x₀ = some .local := by first | exact .inl rfl | exact .inr rfl | assumption) :
 PS X (.Assign [.Name x₀ pos'] (.ListComp elt [⟨tg, iter, [], 0⟩] scope pos) spos) (tAsg (tComp wi xs.length g te is) (gName i₀)) := by
 intro pins s σ H D₀ I h
 rw [exec_Assign_Name_used _ _ _ _ hsw]
 refine wpAny_bind (wpAny_standAt (wpAny_bind ?_))
 show wpAny _ X.A (do let _ ← comprehension (.ListComp elt [⟨tg, iter, [], 0⟩] scope pos) scope X.env _ (newList []) false (eval iter X.env) (some (assign (.Name x₀ pos') X.env))) _ _ s
 refine wpAny_bind (wpAny_mono (comp_core (QQ := fun _ s' => ∃ σ2 H2, Inv X pins σ2 H2 s' ∧ D₀.nx σ2 H2) (Q := fun v H4 => gName i₀ v σ H4 D₀.nx) hc S hi hg (fun _ _ _ _ => pif_nil) he hs I h fun D C s4 H4 m I5 hn ⟨g0, g1, _, g3, g4, g5⟩ q => ?_) (fun _ s' hq => wpAny_pure (wpAny_pure hq)) fun _ _ e => e)
 refine wpAny_assign_Name (store_ok2 I5 hN₀ hi₀ hx₀ (show RelV (.ref D) (.ref D) from rfl) (fun s6 I6 ⟨a6, sb6, ha6⟩ => ?_) hf₀)
 have nea : C ≠ a6 := by
  rcases ha6 with z | z
  ·rw [z]; exact g1
  ·exact fun z2 => g4 _ _ z z2.symm
 exact ⟨m, hn.sameBut sb6 nea, fun h' hs' => ⟨_, _, I6.turned (t' := s6.toks) (it := C) (fun b o hb e => hs'.extBut b o hb e) g0 g1 g3 g4 g5, q⟩⟩
end
end L2
set_option maxHeartbeats 8000000
namespace Ci
open PySem L2
section
variable {W : Wd} {G0 H0 G H : Hp} {env : Sl} {σ : St}
theorem Own.thing {p : PV} {v : V} (h : Own W H0 G H p v) : ∃ a o, v = .ref a ∧ H a = some o ∧ G a = none ∧ H0 a = none ∧ ∀ G', Same G G' → G' a = some o → Rep W G' p (.ref a) := by
 cases p with
 | lst xs =>
  obtain ⟨a, vs, rfl, h1, h2, h3, l⟩ := h
  exact ⟨a, _, rfl, h1, h2, h3, fun G' s e => .l (.inl (.inl e)) (RepL.same s xs l)⟩
 | dct ks ps =>
  obtain ⟨a, us, rfl, h1, h2, h3, l⟩ := h
  rcases h1 with ⟨kk, e1, e2, e3⟩ | ⟨kk, e1, e2, e3⟩
  ·exact ⟨a, _, rfl, e3, h2, h3, fun G' s e => by simp only [Rep]; exact ⟨a, us, rfl, .inl ⟨kk, e1, e2, e⟩, RepL.same s ps l⟩⟩
  ·exact ⟨a, _, rfl, e3, h2, h3, fun G' s e => by simp only [Rep]; exact ⟨a, us, rfl, .inr ⟨kk, e1, e2, e⟩, RepL.same s ps l⟩⟩
 | non => exact h.elim
 | bl _ => exact h.elim
 | int _ => exact h.elim
 | str _ => exact h.elim
 | tup _ => exact h.elim
 | exc _ => exact h.elim
theorem Own.stay {p : PV} {v : V} {a : Addr} {G' H' : Hp} (h : Own W H0 G H p v) (hv : v ≠ .ref a) (sG : Same G G') (hG : ∀ b, b ≠ a → G' b = G b) (hH : ∀ b, b ≠ a → H' b = H b) : Own W H0 G' H' p v := by
 cases p with
 | lst xs =>
  obtain ⟨b, vs, rfl, h1, h2, h3, l⟩ := h
  have hb : b ≠ a := fun z => hv (by rw [z])
  exact ⟨b, vs, rfl, by rw [hH b hb]; exact h1, by rw [hG b hb]; exact h2, h3, RepL.same sG xs l⟩
 | dct ks ps =>
  obtain ⟨b, us, rfl, h1, h2, h3, l⟩ := h
  have hb : b ≠ a := fun z => hv (by rw [z])
  refine ⟨b, us, rfl, ?_, by rw [hG b hb]; exact h2, h3, RepL.same sG ps l⟩
  rcases h1 with ⟨kk, e1, e2, e3⟩ | ⟨kk, e1, e2, e3⟩
  ·exact .inl ⟨kk, e1, e2, by rw [hH b hb]; exact e3⟩
  ·exact .inr ⟨kk, e1, e2, by rw [hH b hb]; exact e3⟩
 | non => exact h.elim
 | bl _ => exact h.elim
 | int _ => exact h.elim
 | str _ => exact h.elim
 | tup _ => exact h.elim
 | exc _ => exact h.elim
theorem getElem?_modify {α : Type} (l : List α) (i j : Nat) (f : α → α) : (l.modify i f)[j]? = if i = j then (l[j]?).map f else l[j]? := by
 rw [List.getElem?_modify]
 split <;> simp_all
theorem frz_ok (r : SR W H0 env σ G H) (g : Grow G0 H0 G H) (i : Nat) : ∃ G', SR W H0 (env.modify i frzS) σ G' H ∧ Grow G0 H0 G' H := by
 have same : (∀ p, env[i]? ≠ some (.own p)) → env.modify i frzS = env := fun h => by
  refine List.ext_getElem? fun j => ?_
  rw [getElem?_modify]
  split
  ·rename_i e
   subst e
   cases q : env[i]? with
   | none => rfl
   | some s =>
    cases s with
    | own p => exact absurd q (h p)
    | no => rfl
    | val p => rfl
  ·rfl
 by_cases hx : ∃ p, env[i]? = some (.own p)
 ·obtain ⟨p, hp⟩ := hx
  obtain ⟨o, ho, v, rfl, ow⟩ := r.slot i _ hp
  obtain ⟨a, ob, rfl, hH, hG, hH0, hrep⟩ := ow.thing
  have sG : Same G (upd G a ob) := same_upd hG
  refine ⟨upd G a ob, ⟨by rw [List.length_modify]; exact r.len, fun b u e => ?_, r.base, fun j s e => ?_, fun j l q q' c e1 e2 e3 e4 => ?_⟩, ⟨g.g.trans sG, g.h, fun b u e => ?_, fun b h1 h2 => ?_⟩⟩
  ·by_cases hb : b = a
   ·subst hb; rw [upd_same] at e; cases e; exact hH
   ·rw [upd_ne hb] at e; exact r.sub _ _ e
  ·rw [getElem?_modify] at e
   split at e
   ·rename_i z
    subst z
    rw [hp] at e
    cases e
    exact ⟨_, ho, _, rfl, hrep _ sG upd_same⟩
   ·rename_i z
    obtain ⟨o2, h1, h2⟩ := r.slot j s e
    refine ⟨o2, h1, ?_⟩
    cases s with
    | no => exact trivial
    | val q =>
     obtain ⟨v2, rfl, rv⟩ := h2
     exact ⟨v2, rfl, Rep.same sG q rv⟩
    | own q =>
     obtain ⟨v2, rfl, ov⟩ := h2
     refine ⟨v2, rfl, ov.stay (a := a) (fun zz => ?_) sG (fun b hb => upd_ne hb) fun b hb => rfl⟩
     subst zz
     exact z (r.apart i j p q a hp e ho h1)
  ·rw [getElem?_modify] at e1 e2
   have ne : ∀ {j : Nat} {q : PV}, (if i = j then (env[j]?).map frzS else env[j]?) = some (.own q) → i ≠ j ∧ env[j]? = some (.own q) := fun {j q} e => by
    split at e
    ·rename_i z
     subst z
     rw [hp] at e
     cases e
    ·rename_i z
     exact ⟨z, e⟩
   exact r.apart j l q q' c (ne e1).2 (ne e2).2 e3 e4
  ·by_cases hb : b = a
   ·subst hb; rw [upd_same] at e; cases e; exact hH
   ·rw [upd_ne hb] at e; exact g.sub _ _ e
  ·have hb : b ≠ a := fun z => h1 (by rw [z]; exact hH0)
   rw [upd_ne hb]
   exact g.own b h1 h2
 ·exact ⟨G, by rw [same fun p z => hx ⟨p, z⟩]; exact r, g⟩
theorem mut_ok (r : SR W H0 env σ G H) (g : Grow G0 H0 G H) {i : Nat} {p p' : PV} {a : Addr} {ob : HO} (hp : env[i]? = some (.own p)) (hs : σ[i]? = some (some (.ref a))) (hG : G a = none) (hH0 : H0 a = none) (hn : Own W H0 G (upd H a ob) p' (.ref a)) :
 SR W H0 (env.set i (.own p')) σ G (upd H a ob) ∧ Grow G0 H0 G (upd H a ob) := by
 have hlt : i < env.length := (List.getElem?_eq_some_iff.mp hp).1
 refine ⟨⟨by rw [List.length_set]; exact r.len, fun b u e => ?_, fun b u e => ?_, fun j s e => ?_, fun j l q q' c e1 e2 e3 e4 => ?_⟩, ⟨g.g, fun b u e => ?_, fun b u e => ?_, g.own⟩⟩
 ·rw [upd_ne (fun z => by subst z; rw [hG] at e; cases e)]; exact r.sub _ _ e
 ·rw [upd_ne (fun z => by subst z; rw [hH0] at e; cases e)]; exact r.base _ _ e
 ·by_cases hj : i = j
  ·subst hj
   rw [List.getElem?_set_self hlt] at e
   cases e
   exact ⟨_, hs, _, rfl, hn⟩
  ·rw [List.getElem?_set_ne hj] at e
   obtain ⟨o2, h1, h2⟩ := r.slot j s e
   refine ⟨o2, h1, ?_⟩
   cases s with
   | no => exact trivial
   | val q => exact h2
   | own q =>
    obtain ⟨v2, rfl, ov⟩ := h2
    refine ⟨v2, rfl, ov.stay (a := a) (fun zz => ?_) (Same.refl _) (fun b hb => rfl) fun b hb => upd_ne hb⟩
    subst zz
    exact hj (r.apart i j p q a hp e hs h1)
 ·have tr : ∀ {j : Nat} {q : PV}, (env.set i (.own p'))[j]? = some (.own q) → ∃ q2, env[j]? = some (.own q2) := fun {j q} e => by
   by_cases hj : i = j
   ·subst hj; exact ⟨p, hp⟩
   ·rw [List.getElem?_set_ne hj] at e; exact ⟨q, e⟩
  obtain ⟨q2, f1⟩ := tr e1
  obtain ⟨q3, f2⟩ := tr e2
  exact r.apart j l q2 q3 c f1 f2 e3 e4
 ·rw [upd_ne (fun z => by subst z; rw [hH0] at e; cases e)]; exact g.h _ _ e
 ·rw [upd_ne (fun z => by subst z; rw [hG] at e; cases e)]; exact g.sub _ _ e
theorem own_ok (r : SR W H0 env σ G H) (g : Grow G0 H0 G H) {i : Nat} {p : PV} {a : Addr} {ob : HO} (hi : i < env.length) (ha : H a = none) (hn : Own W H0 G (upd H a ob) p (.ref a)) :
 SR W H0 (env.set i (.own p)) (σ.set i (some (.ref a))) G (upd H a ob) ∧ Grow G0 H0 G (upd H a ob) := by
 have gm : Grow G H G (upd H a ob) := .mine r.sub ha
 have r1 := r.grow gm
 have old : ∀ {j : Nat} {q : PV}, env[j]? = some (.own q) → σ[j]? = some (some (.ref a)) → False := fun {j q} e1 e2 => by
  obtain ⟨o2, h1, v2, rfl, ov⟩ := r.slot j _ e1
  rw [e2] at h1
  cases h1
  obtain ⟨a', o', e3, hH, _⟩ := ov.thing
  cases e3
  rw [ha] at hH
  cases hH
 refine ⟨⟨by rw [List.length_set, List.length_set]; exact r.len, r1.sub, r1.base, fun j s e => ?_, fun j l q q' c e1 e2 e3 e4 => ?_⟩, g.trans gm⟩
 ·by_cases hj : i = j
  ·subst hj
   rw [List.getElem?_set_self hi] at e
   cases e
   exact ⟨_, List.getElem?_set_self (by rw [← r.len]; exact hi), _, rfl, hn⟩
  ·rw [List.getElem?_set_ne hj] at e
   obtain ⟨o2, h1, h2⟩ := r1.slot j s e
   exact ⟨o2, by rw [List.getElem?_set_ne hj]; exact h1, h2⟩
 ·by_cases hj : i = j
  ·by_cases hl : i = l
   ·exact hj.symm.trans hl
   ·exfalso
    subst hj
    rw [List.getElem?_set_self (by rw [← r.len]; exact hi)] at e3
    rw [List.getElem?_set_ne hl] at e2 e4
    cases e3
    exact old e2 e4
  ·by_cases hl : i = l
   ·exfalso
    subst hl
    rw [List.getElem?_set_self (by rw [← r.len]; exact hi)] at e4
    rw [List.getElem?_set_ne hj] at e1 e3
    cases e4
    exact old e1 e3
   ·rw [List.getElem?_set_ne hj] at e1 e3
    rw [List.getElem?_set_ne hl] at e2 e4
    exact r.apart j l q q' c e1 e2 e3 e4
end
end Ci
set_option maxHeartbeats 8000000
namespace Ci
open PySem L2
def isFresh : E → Bool
 | .lst _ => true
 | .comp _ _ _ _ _ => true
 | .compIf _ _ _ _ _ _ => true
 | _ => false
def noComp : Expr → Bool
 | .ListComp .. => false
 | .SetComp .. => false
 | .DictComp .. => false
 | _ => true
def notTup : Expr → Bool
 | .Tuple .. => false
 | _ => true
def swB (sc : Scope) (x : Str) (xp : Pos) : Expr → Bool
 | .ListComp _ _ s p => sc.names.lookup x == some .local && xp.line == p.line && !(s.names.any fun (n, k) => n == x && (k == .local || k == .cell))
 | _ => false
def nm1 : List Expr → Option Str
 | [.Name x _] => some x
 | _ => none
def one1 : List Expr → Option Expr
 | [t] => some t
 | _ => none
def mc1 : Expr → Option (Str × Str × List Expr)
 | .Call (.Attribute (.Name x _) m apos) args [] cpos => if apos.endLine == cpos.line then some (x, m, args) else none
 | _ => none
def sb1 : List Expr → Option (Str × Expr)
 | [.Subscript (.Name x _) pk _] => some (x, pk)
 | _ => none
def rz1 : Option Expr → Option (Str × Str)
 | some (.Call (.Name x _) [.Constant (.str z) _ _] [] _) => some (x, z)
 | _ => none
def hd1 : List ExceptHandler → Option (Str × Str × Str)
 | [.ExceptHandler (some (.Name x _)) (some n) [.Assign [.Name y _] (.Name n2 _) _] _] => if n2 == n then some (x, n, y) else none
 | _ => none
theorem nm1_eq {ts : List Expr} {x : Str} (h : nm1 ts = some x) : ∃ xp, ts = [.Name x xp] := by
 unfold nm1 at h
 split at h
 ·cases h; exact ⟨_, rfl⟩
 ·cases h
theorem one1_eq {ts : List Expr} {t : Expr} (h : one1 ts = some t) : ts = [t] := by
 unfold one1 at h
 split at h
 ·cases h; rfl
 ·cases h
theorem mc1_eq {p : Expr} {x m : Str} {args : List Expr} (h : mc1 p = some (x, m, args)) : ∃ np apos cpos, p = .Call (.Attribute (.Name x np) m apos) args [] cpos ∧ (apos.endLine == cpos.line) = true := by
 unfold mc1 at h
 split at h
 ·split at h
  ·rename_i hl
   cases h; exact ⟨_, _, _, rfl, hl⟩
  ·cases h
 ·cases h
theorem sb1_eq {ts : List Expr} {x : Str} {pk : Expr} (h : sb1 ts = some (x, pk)) : ∃ np sp, ts = [.Subscript (.Name x np) pk sp] := by
 unfold sb1 at h
 split at h
 ·cases h; exact ⟨_, _, rfl⟩
 ·cases h
theorem rz1_eq {o : Option Expr} {x z : Str} (h : rz1 o = some (x, z)) : ∃ np j zp cp, o = some (.Call (.Name x np) [.Constant (.str z) j zp] [] cp) := by
 unfold rz1 at h
 split at h
 ·cases h; exact ⟨_, _, _, _, rfl⟩
 ·cases h
theorem hd1_eq {hs : List ExceptHandler} {x n y : Str} (h : hd1 hs = some (x, n, y)) : ∃ xp yp np ap hp, hs = [.ExceptHandler (some (.Name x xp)) (some n) [.Assign [.Name y yp] (.Name n np) ap] hp] := by
 unfold hd1 at h
 split at h
 ·split at h
  ·rename_i e
   cases h
   cases beq_iff_eq.mp e
   exact ⟨_, _, _, _, _, rfl⟩
  ·cases h
 ·cases h
mutual
def chkT1 (Γ : Pg) (N : List Str) (sc : Scope) : S → Stmt → Bool
 | .set i e, .Assign ts p _ => (nm1 ts).any fun x => N[i]? == some x && locB sc x && esc e && !isFresh e && chkE Γ N sc e p
 | .ret e, .Return (some p) _ => esc e && chkE Γ N sc e p
 | .ite c a b, .If p pa pb _ => gtOk c && chkE Γ N sc c p && chkT Γ N sc a pa && chkT Γ N sc b pb
 | _, _ => false
def chkT (Γ : Pg) (N : List Str) (sc : Scope) : Ss → List Stmt → Bool
 | .cons s .nil, [p] => chkT1 Γ N sc s p
 | _, _ => false
end
mutual
def chkS (Γ : Pg) (N : List Str) (sc : Scope) : S → Stmt → Bool
 | .expr e, .Expr p _ => noComp p && chkE Γ N sc e p
 | .set i e, .Assign ts p _ => (nm1 ts).any fun x => N[i]? == some x && locB sc x && esc e && chkE Γ N sc e p
 | .own i e, .Assign ts p _ => (nm1 ts).any fun x => N[i]? == some x && locB sc x && isFresh e && chkE Γ N sc e p
 | .unp tg e, .Assign ts p _ => (one1 ts).any fun ptg => isTup ptg && chkTg N sc true tg ptg && noComp p && notTup p && esc e && chkE Γ N sc e p
 | .app i e, .Expr v _ => (mc1 v).any fun c => N[i]? == some c.1 && visB sc c.1 && okN c.1 && c.2.1 == ("append" : Str) && esc e && (one1 c.2.2).any fun p => chkE Γ N sc e p
 | .extd i e, .Expr v _ => (mc1 v).any fun c => N[i]? == some c.1 && visB sc c.1 && okN c.1 && c.2.1 == ("extend" : Str) && (one1 c.2.2).any fun p => chkE Γ N sc e p
 | .put i kk e, .Assign ts p _ => (sb1 ts).any fun c => N[i]? == some c.1 && visB sc c.1 && okN c.1 && noComp p && esc e && chkE Γ N sc kk c.2 && chkE Γ N sc e p
 | .pop j i, .Assign ts v _ => (nm1 ts).any fun y => (mc1 v).any fun c => N[i]? == some c.1 && visB sc c.1 && okN c.1 && c.2.1 == ("pop" : Str) && c.2.2.isEmpty && N[j]? == some y && locB sc y
 | .aug i o e, .AugAssign (.Name x _) op p _ => N[i]? == some x && locB sc x && decide (opB o = .Add) && decide (opB o = op) && chkE Γ N sc e p
 | .ret e, .Return (some p) _ => esc e && chkE Γ N sc e p
 | .retN, .Return none _ => true
 | .ite c a b, .If p pa pb _ => gtOk c && chkE Γ N sc c p && chkSs Γ N sc a pa && chkSs Γ N sc b pb
 | .for_ tg it b, .For ptg pit pb els _ => els.isEmpty && chkTg N sc true tg ptg && escI it && chkI Γ N sc ptg it pit && chkSs Γ N sc b pb
 | .whl c b, .While p pb els _ => els.isEmpty && gtOk c && chkE Γ N sc c p && chkSs Γ N sc b pb
 | .raise c m, .Raise ex fr _ => fr.isNone && (rz1 ex).any fun q => c == q.1 && m == q.2 && Γ.rs.contains c && glB sc c && okN c
 | .tryx b c i j, .Try pb hs o1 o2 _ => o1.isEmpty && o2.isEmpty && chkT Γ N sc b pb && (hd1 hs).any fun q => q.1 == c && Γ.cs.contains c && c == "FloorError" && glB sc c && okN c && N[i]? == some q.2.1 && sc.names.lookup q.2.1 == some .local && okN q.2.1 && N[j]? == some q.2.2 && sc.names.lookup q.2.2 == some .local
 | .brk, .Break _ => true
 | .cont, .Continue _ => true
 | .pass, .Pass _ => true
 | _, _ => false
def chkSs (Γ : Pg) (N : List Str) (sc : Scope) : Ss → List Stmt → Bool
 | .nil, [] => true
 | .cons (.frz _) ss, ps => chkSs Γ N sc ss ps
 | .cons s ss, p :: ps => chkS Γ N sc s p && chkSs Γ N sc ss ps
 | _, _ => false
end
section
variable {Γ : Pg} {X : Cx} {W : Wd} {F : Fns} {N : List Str} {sc : Scope} {k : Nat} {H0 : Hp} {E : XK}
theorem SR.go {env : Sl} {σ : St} {G H : Hp} (r : SR W H0 env σ G H) : Grow G H0 G H := ⟨Same.refl _, r.base, r.sub, fun _ _ h => h⟩
theorem Grow.then {G G1 H1 G2 H2 : Hp} (a : Grow G H0 G1 H1) (b : Grow G1 H0 G2 H2) : Grow G H0 G2 H2 := ⟨a.g.trans b.g, b.h, b.sub, fun x h1 h2 => b.own x h1 (a.own x h1 h2)⟩
theorem SR.on {env : Sl} {σ : St} {G H G1 H1 : Hp} (r : SR W H0 env σ G H) (g : Grow G H G1 H1) : Grow G H0 G1 H1 := ⟨g.g, r.base.trans g.h, g.sub, fun x h1 h2 => g.own x (fun z => h1 (r.base.free z)) h2⟩
def Dn (W : Wd) (H0 G : Hp) (D : Ends) : Fl → Prop
 | .nx env => ∀ σ G' H', SR W H0 env σ G' H' → Grow G H0 G' H' → D.nx σ H'
 | .bk env => ∀ σ G' H', SR W H0 env σ G' H' → Grow G H0 G' H' → D.bk σ H'
 | .ct env => ∀ σ G' H', SR W H0 env σ G' H' → Grow G H0 G' H' → D.ct σ H'
 | .rt p => ∀ v G' H', Rep W G' p v → Grow G H0 G' H' → D.rt v H'
def OutS (W : Wd) (H0 G : Hp) (E : XK) (r : Res Fl) (D : Ends) : Prop := match r with
 | .ok f => Dn W H0 G D f
 | .exc c => ∀ Cv ao H', XE W c G H0 Cv ao H' → E Cv ao H'
 | .bad => False
theorem Dn.on {G G1 H1 : Hp} {D : Ends} {f : Fl} (h : Dn W H0 G D f) (g : Grow G H0 G1 H1) : Dn W H0 G1 D f := by
 cases f with
 | nx env => exact fun σ G' H' r g' => h σ G' H' r (g.then g')
 | bk env => exact fun σ G' H' r g' => h σ G' H' r (g.then g')
 | ct env => exact fun σ G' H' r g' => h σ G' H' r (g.then g')
 | rt p => exact fun v G' H' r g' => h v G' H' r (g.then g')
theorem OutS.on {G G1 H1 : Hp} {D : Ends} {r : Res Fl} (h : OutS W H0 G E r D) (g : Grow G H0 G1 H1) : OutS W H0 G1 E r D := by
 cases r with
 | ok f => exact Dn.on h g
 | exc c =>
  intro Cv ao H' x
  obtain ⟨C, a, G', e1, e2, e3, e4, g2⟩ := x
  exact h Cv ao H' ⟨C, a, G', e1, e2, e3, e4, g.then g2⟩
 | bad => exact h
def tS (W : Wd) (F : Fns) (H0 : Hp) (E : XK) (s : S) : TS := fun D σ H => ∃ G env, SR W H0 env σ G H ∧ OutS W H0 G E (exS F s env) D
def tSs (W : Wd) (F : Fns) (H0 : Hp) (E : XK) (ss : Ss) : TS := fun D σ H => ∃ G env, SR W H0 env σ G H ∧ OutS W H0 G E (exSs F ss env) D
abbrev GS (X : Cx) (W : Wd) (F : Fns) (H0 : Hp) (E : XK) (s : S) (p : Stmt) : Prop := PS X p (tS W F H0 E s)
abbrev GSs (X : Cx) (W : Wd) (F : Fns) (H0 : Hp) (E : XK) (s : Ss) (p : List Stmt) : Prop := PSs X p (tSs W F H0 E s)
theorem _root_.L2.PS.imp {p : Stmt} {t t' : TS} (h : PS X p t) (i : ∀ D σ H, t' D σ H → t D σ H) : PS X p t' := fun pins s σ H D I hw => h pins s σ H D I (i D σ H hw)
theorem _root_.L2.PSs.imp {p : List Stmt} {t t' : TS} (h : PSs X p t) (i : ∀ D σ H, t' D σ H → t D σ H) : PSs X p t' := fun pins s σ H D I hw => h pins s σ H D I (i D σ H hw)
structure CxS (Γ : Pg) (F : Fns) (W : Wd) (N : List Str) (sc : Scope) (k : Nat) (E : XK) (X : Cx) : Prop where
 C : CxI Γ F W N sc k X
 fn : ∀ x, X.fn x = true
 own : PassesOwn (model X.prog X.w) X.A X.env X.xe
 pass : Passes (CX1 X.prog X.w) X E
 kind : sc.kind = .function
 stk : X.stack = X.env :: X.outer
 frame : X.env.frame = some X.env.locals
 xs : ∀ c, Γ.rs.contains c = true → c ∈ W.xs
 rm : ∀ c, Γ.rs.contains c = true → ∃ C, X.mg c = some (.ref C)
 rz : ∀ (c z : Str) (j : Nat) (np zp cp pos : Pos), Γ.rs.contains c = true → glB sc c = true → okN c = true → PS X (.Raise (some (.Call (.Name c np) [.Constant (.str z) j zp] [] cp)) none pos) (fun _ _ H => ∀ C e, X.mg c = some (.ref C) → H e = none → E (.ref C) (some e) H)
 exm : Γ.cs.contains "FloorError" = true → ∀ c D, c ∈ W.xs → X.mg c = some (.ref D) → ∀ T, X.mg "FloorError" = some (.ref T) → PySem.W.exmOne X.K (.ref D) (.ref T) = some true
theorem rais_of (S : CxS Γ F W N sc k E X) {c : Str} {σ : St} {Gs G H : Hp} (g : Grow Gs H0 G H) (h : ∀ Cv ao H', XE W c Gs H0 Cv ao H' → E Cv ao H') : Rais X W σ c G H := fun pins G1 H1 s1 e s' I g1 x =>
 S.pass pins σ H1 s1 e s' I (Fly.imp x fun Cv a H' y => h Cv a H' (by
  obtain ⟨C, a', G', e1, e2, e3, e4, g2⟩ := y
  have g3 := g1.trans g2
  exact ⟨C, a', G', e1, e2, e3, e4, g.g.trans g3.g, g.h.trans g3.h, g3.sub, fun x h1 h2 => g3.own x (fun z => h1 (g.h.free z)) (g.own x h1 h2)⟩))
theorem OutS.bind {α : Type} (S : CxS Γ F W N sc k E X) {r : Res α} {f : α → Res Fl} {D : Ends} {env : Sl} {σ : St} {G H : Hp} (sr : SR W H0 env σ G H) (h : OutS W H0 G E (r.bind f) D) : Out X W r σ G H fun a => OutS W H0 G E (f a) D := by
 cases r with
 | ok a => exact h
 | exc c => exact rais_of S sr.go h
 | bad => exact h
theorem oneS (S : CxS Γ F W N sc k E X) {env : Sl} {σ : St} {G H : Hp} {e : Ci.E} {f : PV → Res Fl} {D : Ends} {Q : VK} (sr : SR W H0 env σ G H) (o : OutS W H0 G E ((evE F e env).bind f) D)
 (h : ∀ p v G1 H1, Grow G H G1 H1 → Got W H0 G1 H1 e p v → SR W H0 env σ G1 H1 → OutS W H0 G1 E (f p) D → Q v H1) : tE X W F e σ H Q :=
 ⟨H0, G, env, sr, (o.bind S sr).imp fun p hp v G1 H1 g1 t => h p v G1 H1 g1 t (sr.grow g1) (hp.on (sr.on g1))⟩
theorem oneST (S : CxS Γ F W N sc k E X) {env : Sl} {σ : St} {G H : Hp} {e : Ci.E} {f : Bool → Res Fl} {D : Ends} {Q : Bool → Hp → Prop} (sr : SR W H0 env σ G H) (o : OutS W H0 G E ((evE F e env).bind fun p => asB p f) D)
 (h : ∀ b G1 H1, Grow G H G1 H1 → SR W H0 env σ G1 H1 → OutS W H0 G1 E (f b) D → Q b H1) : tT X W F e σ H Q := by
 refine ⟨H0, G, env, sr, (o.bind S sr).imp fun p hp => ?_⟩
 cases p with
 | bl b => exact ⟨b, rfl, fun G1 H1 g1 => h b G1 H1 g1 (sr.grow g1) (OutS.on hp (sr.on g1))⟩
 | non => exact False.elim hp
 | int _ => exact False.elim hp
 | str _ => exact False.elim hp
 | tup _ => exact False.elim hp
 | lst _ => exact False.elim hp
 | exc _ => exact False.elim hp
 | dct _ _ => exact False.elim hp
theorem oneSF (S : CxS Γ F W N sc k E X) {env : Sl} {σ : St} {G H : Hp} {e : Ci.E} {f : PV → Res Fl} {D : Ends} {Q : VK} (hl : ∀ env q, evE F e env = .ok q → ∃ xs, q = .lst xs) (sr : SR W H0 env σ G H) (o : OutS W H0 G E ((evE F e env).bind f) D)
 (h : ∀ xs a vs G1 H1, Grow G H G1 H1 → H1 a = none → RepL W G1 xs vs → SR W H0 env σ G1 H1 → OutS W H0 G1 E (f (.lst xs)) D → Q (.ref a) (upd H1 a (.lst vs))) : tF X W F e σ H Q := by
 refine ⟨H0, G, env, sr, ?_⟩
 have o2 := o.bind S sr
 cases r : evE F e env with
 | bad => rw [r] at o2; exact o2
 | exc c => rw [r] at o2; exact o2
 | ok q =>
  rw [r] at o2
  obtain ⟨xs, rfl⟩ := hl env q r
  exact ⟨xs, rfl, fun a vs G' H' g ha l => h xs a vs G' H' g ha l (sr.grow g) (OutS.on o2 (sr.on g))⟩
end
end Ci
set_option maxHeartbeats 8000000
namespace Ci
open PySem L2
section
variable {Γ : Pg} {X : Cx} {W : Wd} {F : Fns} {N : List Str} {sc : Scope} {k : Nat} {H0 : Hp} {E : XK}
theorem sw_none {p : Expr} {t : Option Expr} {l : Nat} {env : Env} (h : noComp p = true) : swapsWith p t l env = pure false := by
 cases p <;> first | rfl | (exact absurd h Bool.false_ne_true)
theorem sw_comp {elt : Expr} {gens : List Comprehension} {s : Scope} {p : Pos} {x : Str} {xp : Pos} {l : Nat} (hsc : X.env.scope = sc) (hk : sc.kind = .function) : swapsWith (.ListComp elt gens s p) (some (.Name x xp)) l X.env = pure (swB sc x xp (.ListComp elt gens s p)) := by
 have hb : X.env.blockKind = .function := by
  unfold Env.blockKind
  rw [hsc, hk]
  rfl
 show (pure (X.env.blockKind == .function && X.env.kindOf x == some .local && xp.line == p.line && !(s.names.any fun (n, k) => n == x && (k == .local || k == .cell))) : Sem Bool) = _
 rw [hb]
 show (pure (true && X.env.scope.names.lookup x == some .local && _ && _) : Sem Bool) = _
 rw [hsc]
 rfl
theorem gs_expr (S : CxS Γ F W N sc k E X) {e : Ci.E} {p : Expr} {pos : Pos} (he : GE X W F e p) (hn : noComp p = true) : GS X W F H0 E (.expr e) (.Expr p pos) :=
 L2.PS.imp (ps_expr he (sw_none hn)) fun D σ H h => by
  obtain ⟨G, env, sr, o⟩ := h
  rw [exS] at o
  exact oneS S sr o fun q v G1 H1 g t sr1 o1 => o1 σ G1 H1 sr1 sr1.go
theorem gs_ret (S : CxS Γ F W N sc k E X) {e : Ci.E} {p : Expr} {pos : Pos} (hesc : esc e = true) (he : GE X W F e p) : GS X W F H0 E (.ret e) (.Return (some p) pos) :=
 L2.PS.imp (ps_ret he) fun D σ H h => by
  obtain ⟨G, env, sr, o⟩ := h
  rw [exS] at o
  exact oneS S sr o fun q v G1 H1 g t sr1 o1 => o1 v G1 H1 (t.rep hesc) sr1.go
theorem gs_retN {pos : Pos} : GS X W F H0 E .retN (.Return none pos) :=
 L2.PS.imp ps_retN fun D σ H h => by
  obtain ⟨G, env, sr, o⟩ := h
  rw [exS] at o
  exact o .non G H .n sr.go
theorem gs_brk {pos : Pos} : GS X W F H0 E .brk (.Break pos) :=
 L2.PS.imp ps_break fun D σ H h => by
  obtain ⟨G, env, sr, o⟩ := h
  rw [exS] at o
  exact o σ G H sr sr.go
theorem gs_cont {pos : Pos} : GS X W F H0 E .cont (.Continue pos) :=
 L2.PS.imp ps_continue fun D σ H h => by
  obtain ⟨G, env, sr, o⟩ := h
  rw [exS] at o
  exact o σ G H sr sr.go
theorem gs_pass {pos : Pos} : GS X W F H0 E .pass (.Pass pos) :=
 L2.PS.imp ps_pass fun D σ H h => by
  obtain ⟨G, env, sr, o⟩ := h
  rw [exS] at o
  exact o σ G H sr sr.go
theorem gs_raise (S : CxS Γ F W N sc k E X) {c m : Str} {j : Nat} {np zp cp pos : Pos} (h1 : Γ.rs.contains c = true) (h2 : glB sc c = true) (h3 : okN c = true) : GS X W F H0 E (.raise c m) (.Raise (some (.Call (.Name c np) [.Constant (.str m) j zp] [] cp)) none pos) :=
 L2.PS.imp (S.rz c m j np zp cp pos h1 h2 h3) fun D σ H h C e hC he => by
  obtain ⟨G, env, sr, o⟩ := h
  rw [exS] at o
  exact o _ _ _ ⟨C, e, G, rfl, rfl, S.xs c h1, by rw [S.C.mg]; exact hC, sr.go⟩
theorem asg_name (S : CxS Γ F W N sc k E X) {i : Nat} {x : Str} (h : N[i]? = some x) (hl : locB sc x = true) : X.N.Nodup ∧ X.N[i]? = some x ∧ Loc X.env.scope x := by
 refine ⟨by rw [S.C.hN]; exact S.C.nd, by rw [S.C.hN]; exact h, loc_of S.C.hsc hl⟩
theorem gs_set (S : CxS Γ F W N sc k E X) {i : Nat} {x : Str} {e : Ci.E} {p : Expr} {xp pos : Pos} (h : N[i]? = some x) (hl : locB sc x = true) (hesc : esc e = true) (he : GE X W F e p) (hs : swapsWith p (some (.Name x xp)) pos.line X.env = pure false) : GS X W F H0 E (.set i e) (.Assign [.Name x xp] p pos) := by
 obtain ⟨a1, a2, a3⟩ := asg_name S h hl
 refine L2.PS.imp (ps_set a1 a2 a3 he hs (.inl (S.fn x))) fun D σ H h => ?_
 obtain ⟨G, env, sr, o⟩ := h
 rw [exS] at o
 exact oneS S sr o fun q v G1 H1 g t sr1 o1 => o1 _ G1 H1 (sr1.set i (t.rep hesc)) sr1.go
def tAF (X : Cx) (W : Wd) (F : Fns) (i : Nat) (e : Ci.E) : TS := fun D σ H => tF X W F e σ H fun v H1 => D.nx (σ.set i (some v)) H1
theorem tE_tF {e : Ci.E} (hl : ∀ env q, evE F e env = .ok q → ∃ xs, q = .lst xs) (σ : St) (H : Hp) (Q : VK) (h : tE X W F e σ H Q) : tF X W F e σ H Q := by
 obtain ⟨H0, G, env, sr, o⟩ := h
 refine ⟨H0, G, env, sr, ?_⟩
 cases r : evE F e env with
 | bad => rw [r] at o; exact o
 | exc c => rw [r] at o; exact o
 | ok q =>
  rw [r] at o
  obtain ⟨xs, rfl⟩ := hl env q r
  exact ⟨xs, rfl, fun a vs G' H' g ha l => o _ _ _ (g.trans (.new g.sub ha)) (.of (.l (.inl (.inl upd_same)) (RepL.same (same_upd (g.sub.free ha)) xs l)))⟩
theorem gs_setF (S : CxS Γ F W N sc k E X) {i : Nat} {e : Ci.E} {p : Stmt} (hl : ∀ env q, evE F e env = .ok q → ∃ xs, q = .lst xs) (hesc : esc e = true) (h : PS X p (tAF X W F i e)) : GS X W F H0 E (.set i e) p :=
 L2.PS.imp h fun D σ H hq => by
  obtain ⟨G, env, sr, o⟩ := hq
  rw [exS] at o
  refine tE_tF hl σ H _ (oneS S sr o fun q v G1 H1 g t sr1 o1 => ?_)
  exact o1 _ G1 H1 (sr1.set i (t.rep hesc)) sr1.go
theorem gs_ownF (S : CxS Γ F W N sc k E X) {i : Nat} {x : Str} {e : Ci.E} {p : Stmt} (hi : N[i]? = some x) (hl : ∀ env q, evE F e env = .ok q → ∃ xs, q = .lst xs) (h : PS X p (tAF X W F i e)) : GS X W F H0 E (.own i e) p := by
 intro pins s σ H D I hq
 have hil : i < σ.length := by rw [I.len, S.C.hN]; exact (List.getElem?_eq_some_iff.mp hi).1
 refine h pins s σ H D I ?_
 obtain ⟨G, env, sr, o⟩ := hq
 rw [exS] at o
 refine oneSF S hl sr o fun xs a vs G1 H1 g ha l sr1 o1 => ?_
 have hO : Own W H0 G1 (upd H1 a (.lst vs)) (.lst xs) (.ref a) := ⟨a, vs, rfl, upd_same, sr1.sub.free ha, sr1.base.free ha, l⟩
 obtain ⟨r2, g2⟩ := own_ok sr1 sr1.go (i := i) (by rw [sr1.len]; exact hil) ha hO
 exact o1 _ G1 _ r2 g2
theorem ps_asgF {i : Nat} {x : Str} {e : Ci.E} {p : Expr} {xp pos : Pos} (S : CxS Γ F W N sc k E X) (h : N[i]? = some x) (hl : locB sc x = true) (he : GF X W F e p) (hs : swapsWith p (some (.Name x xp)) pos.line X.env = pure false) : PS X (.Assign [.Name x xp] p pos) (tAF X W F i e) := by
 obtain ⟨a1, a2, a3⟩ := asg_name S h hl
 exact ps_set a1 a2 a3 he hs (.inl (S.fn x))
theorem asg_comp (S : CxS Γ F W N sc k E X) {i : Nat} {x : Str} {xp spos : Pos} (hx : N[i]? = some x) (hlx : locB sc x = true) {kk : Nat} {cap : List Nat} {tg : Tg} {it : I} {elt : Ci.E} {ptg pit pelt : Expr} {scope : Scope} {pos : Pos} (h : CompC N sc scope kk cap (tgNames ptg)) (hlt : tgLt kk tg = true) (hesc : esc elt = true) (hi : GI X W F ptg it pit) (hfs : ∀ x, foldedSetIterable pit X.env x = pure x)
 (htg : chkTg (tgNames ptg ++ freeOf scope) (relab scope sc) false tg ptg = true) (he : ∀ Y, CxI Γ F W (tgNames ptg ++ freeOf scope) (relab scope sc) k Y → GE Y W F elt pelt) : PS X (.Assign [.Name x xp] (.ListComp pelt [⟨ptg, pit, [], 0⟩] scope pos) spos) (tAF X W F i (.comp kk cap tg it elt)) := by
 obtain ⟨a1, a2, a3⟩ := asg_name S hx hlx
 cases hsw : swB sc x xp (.ListComp pelt [⟨ptg, pit, [], 0⟩] scope pos) with
 | false => exact ps_asgF S hx hlx (gf_comp S.C h hlt hesc hi hfs htg he) (by rw [sw_comp S.C.hsc S.kind, hsw])
 | true =>
  intro pins s σ H D I hq
  have nd2 : (freeOf scope).Nodup := (List.nodup_append.mp h.nd).2.1
  have rd := comp_rd (N := N) S.C.K hlt hesc h.slots nd2 σ H _ hq
  have := ps_setComp (g := gT X.K tg) (te := tN W F elt) (xs := tgNames ptg) (ys := freeOf scope) (is := cap) (pos := pos) a1 a2 a3 S.C.calm (compSc S.C.hN S.C.hsc I.ok h) hi
   (fun fp s1 H1 A => pg_T (fn := false) (X := compCx X (tgNames ptg ++ freeOf scope) scope (clOf X.env (freeOf scope)) fp s1 H1 A) rfl h.nd (relab_eq S.C.hsc) rfl (fun z => nomatch z) htg)
   (fun fp s1 H1 A => L2.PE.imp (he _ (cx_block S.C h fp s1 H1 A)) fun σ H Q z => tN_tE σ H Q z) (by rw [sw_comp (l := spos.line) S.C.hsc S.kind, hsw]) hfs (.inl (S.fn x)) pins s σ H D I
  rw [h.len] at this
  exact this rd
theorem asg_compIf (S : CxS Γ F W N sc k E X) {i : Nat} {x : Str} {xp spos : Pos} (hx : N[i]? = some x) (hlx : locB sc x = true) {kk : Nat} {cap : List Nat} {tg : Tg} {it : I} {c elt : Ci.E} {ptg pit pc pelt : Expr} {scope : Scope} {pos : Pos} (h : CompC N sc scope kk cap (tgNames ptg)) (hlt : tgLt kk tg = true) (hesc : esc elt = true) (hi : GI X W F ptg it pit) (hfs : ∀ x, foldedSetIterable pit X.env x = pure x)
 (htg : chkTg (tgNames ptg ++ freeOf scope) (relab scope sc) false tg ptg = true) (hc : ∀ Y, CxI Γ F W (tgNames ptg ++ freeOf scope) (relab scope sc) k Y → GT Y W F c pc) (he : ∀ Y, CxI Γ F W (tgNames ptg ++ freeOf scope) (relab scope sc) k Y → GE Y W F elt pelt) : PS X (.Assign [.Name x xp] (.ListComp pelt [⟨ptg, pit, [pc], 0⟩] scope pos) spos) (tAF X W F i (.compIf kk cap tg it c elt)) := by
 obtain ⟨a1, a2, a3⟩ := asg_name S hx hlx
 cases hsw : swB sc x xp (.ListComp pelt [⟨ptg, pit, [pc], 0⟩] scope pos) with
 | false => exact ps_asgF S hx hlx (gf_compIf S.C h hlt hesc hi hfs htg hc he) (by rw [sw_comp S.C.hsc S.kind, hsw])
 | true =>
  intro pins s σ H D I hq
  have nd2 : (freeOf scope).Nodup := (List.nodup_append.mp h.nd).2.1
  have rd := compIf_rd (N := N) S.C.K hlt hesc h.slots nd2 σ H _ hq
  have := ps_setCompIf (g := gT X.K tg) (tt := tNT W F c) (te := tN W F elt) (xs := tgNames ptg) (ys := freeOf scope) (is := cap) (pos := pos) a1 a2 a3 S.C.calm (compSc S.C.hN S.C.hsc I.ok h) hi
   (fun fp s1 H1 A => pg_T (fn := false) (X := compCx X (tgNames ptg ++ freeOf scope) scope (clOf X.env (freeOf scope)) fp s1 H1 A) rfl h.nd (relab_eq S.C.hsc) rfl (fun z => nomatch z) htg)
   (fun fp s1 H1 A => L2.PT.imp (hc _ (cx_block S.C h fp s1 H1 A)) fun σ H Q z => tNT_tT σ H Q z)
   (fun fp s1 H1 A => L2.PE.imp (he _ (cx_block S.C h fp s1 H1 A)) fun σ H Q z => tN_tE σ H Q z) (by rw [sw_comp (l := spos.line) S.C.hsc S.kind, hsw]) hfs (.inl (S.fn x)) pins s σ H D I
  rw [h.len] at this
  exact this rd
theorem noexc_put {tg : Tg} {p : PV} {env : Sl} (c : Str) : Tg.put tg p env ≠ .exc c := by
 unfold Tg.put
 split <;> exact fun z => nomatch z
theorem gs_unp (S : CxS Γ F W N sc k E X) {tg : Tg} {e : Ci.E} {ptg p : Expr} {pos : Pos} (ht : isTup ptg = true) (htg : chkTg N sc true tg ptg = true) (hn : noComp p = true) (hp : notTup p = true) (hesc : esc e = true) (he : GE X W F e p) : GS X W F H0 E (.unp tg e) (.Assign [ptg] p pos) := by
 have hsw : swappedStores [ptg] p X.env = pure none := by
  cases ptg <;> first | (exact absurd ht Bool.false_ne_true) | skip
  cases p <;> first | rfl | (exact absurd hp Bool.false_ne_true)
 have h1 : (assignEach [ptg] X.env).map (·.2) = [assign ptg X.env] := by
  cases ptg <;> first | rfl | (exact absurd ht Bool.false_ne_true)
 refine L2.PS.imp (ps_asg he (pg_T (fn := true) S.C.hN S.C.nd S.C.hsc S.C.calm (fun _ => S.fn) htg) (sw_none hn) hsw h1) fun D σ H h => ?_
 obtain ⟨G, env, sr, o⟩ := h
 rw [exS] at o
 refine oneS S sr o fun q v G1 H1 g t sr1 o1 => ?_
 cases r : tg.put q env with
 | bad => rw [r] at o1; exact o1.elim
 | exc c => exact absurd r (noexc_put c)
 | ok env' =>
  rw [r] at o1
  exact gT_put S.C.K r sr1 (t.rep hesc) fun σ' sr2 => o1 σ' G1 H1 sr2 sr1.go
theorem gs_ite (S : CxS Γ F W N sc k E X) {c : Ci.E} {a b : Ss} {p : Expr} {pa pb : List Stmt} {pos : Pos} (hc : GT X W F c p) (ha : GSs X W F H0 E a pa) (hb : GSs X W F H0 E b pb) : GS X W F H0 E (.ite c a b) (.If p pa pb pos) :=
 L2.PS.imp (ps_if hc ha hb) fun D σ H h => by
  obtain ⟨G, env, sr, o⟩ := h
  rw [exS] at o
  refine oneST S sr o fun t G1 H1 g sr1 o1 => ?_
  cases t with
  | true =>
   rw [if_pos rfl] at o1 ⊢
   exact ⟨G1, env, sr1, o1⟩
  | false =>
   rw [if_neg Bool.false_ne_true] at o1 ⊢
   exact ⟨G1, env, sr1, o1⟩
theorem gs_whl (S : CxS Γ F W N sc k E X) {c : Ci.E} {b : Ss} {p : Expr} {pb : List Stmt} {pos : Pos} (hc : GT X W F c p) (hb : GSs X W F H0 E b pb) : GS X W F H0 E (.whl c b) (.While p pb [] pos) :=
 L2.PS.imp (ps_while S.own hc hb) fun D σ H h => by
  obtain ⟨G, env, sr, o⟩ := h
  rw [exS] at o
  refine ⟨fun m σ' H' => ∃ G' env', SR W H0 env' σ' G' H' ∧ Grow G H0 G' H' ∧ OutS W H0 G' E (whileN (evE F c) (exSs F b) m env') D, ⟨_, G, env, sr, sr.go, o⟩, ?_⟩
  rintro m σ' H' ⟨G', env', sr', g', o'⟩
  cases m with
  | zero => exact o'.elim
  | succ m =>
   unfold whileN at o'
   refine oneST S sr' o' fun t G1 H1 g1 sr1 o1 => ?_
   cases t with
   | false =>
    rw [if_neg Bool.false_ne_true] at o1 ⊢
    exact o1 σ' G1 H1 sr1 sr1.go
   | true =>
    rw [if_pos rfl] at o1 ⊢
    refine ⟨fun σ2 H2 => ∃ G2 env2, SR W H0 env2 σ2 G2 H2 ∧ Grow G H0 G2 H2 ∧ OutS W H0 G2 E (whileN (evE F c) (exSs F b) m env2) D, fun σ2 H2 h2 => ⟨m, Nat.lt_succ_self _, h2⟩, G1, env', sr1, ?_⟩
    have gg := g'.then (sr'.on g1)
    cases r : exSs F b env' with
    | bad => rw [r] at o1; exact o1.elim
    | exc cc => rw [r] at o1; exact o1
    | ok f =>
     rw [r] at o1
     cases f with
     | nx env2 => exact fun σ2 G2 H2 sr2 g2 => ⟨G2, env2, sr2, gg.then g2, OutS.on (show OutS W H0 G1 E (whileN (evE F c) (exSs F b) m env2) D from o1) g2⟩
     | ct env2 => exact fun σ2 G2 H2 sr2 g2 => ⟨G2, env2, sr2, gg.then g2, OutS.on (show OutS W H0 G1 E (whileN (evE F c) (exSs F b) m env2) D from o1) g2⟩
     | bk env2 => exact fun σ2 G2 H2 sr2 g2 => o1 σ2 G2 H2 sr2 g2
     | rt q => exact fun v G2 H2 rv g2 => o1 v G2 H2 rv g2
theorem gs_for (S : CxS Γ F W N sc k E X) {tg : Tg} {it : I} {b : Ss} {ptg pit : Expr} {pb : List Stmt} {pos : Pos} (htg : chkTg N sc true tg ptg = true) (hit : escI it = true) (hi : GI X W F ptg it pit) (hfs : ∀ x, foldedSetIterable pit X.env x = pure x) (hb : GSs X W F H0 E b pb) : GS X W F H0 E (.for_ tg it b) (.For ptg pit pb [] pos) :=
 L2.PS.imp (ps_for S.own S.C.calm hi (pg_T (fn := true) S.C.hN S.C.nd S.C.hsc S.C.calm (fun _ => S.fn) htg) hb hfs) fun D σ H h => by
  obtain ⟨G, env, sr, o⟩ := h
  rw [exS] at o
  refine ⟨H0, G, env, sr, (o.bind S sr).imp fun ps hps J G1 H1 g1 gi => ?_⟩
  have frz := gi.frz hit
  generalize hf : (fun (x : PV) (env : Sl) => (tg.put x env).bind fun env' => exSs F b env') = f at hps
  have sr1 := sr.grow g1
  refine ⟨fun i m σ' H' => i ≤ ps.length ∧ m = ps.length - i ∧ ∃ G' env', SR W H0 env' σ' G' H' ∧ Grow G1 H0 G' H' ∧ OutS W H0 G' E (forL f (ps.drop i) env') D, ⟨_, Nat.zero_le _, rfl, G1, env, sr1, sr1.go, by rw [List.drop_zero]; exact OutS.on hps (sr.on g1)⟩, ?_⟩
  rintro i m σ' H' ⟨hi2, hm, G', env', sr', g', o'⟩
  obtain ⟨ist, igo⟩ := frz i G' H' g'.g (g'.g.trans sr'.sub) sr'.sub
  by_cases hlast : i = ps.length
  ·refine .inl ⟨ist hlast, ?_⟩
   rw [hlast, List.drop_length] at o'
   exact o' σ' G' H' sr' sr'.go
  ·have hlt : i < ps.length := by omega
   obtain ⟨hgo, hyld⟩ := igo ps[i] (List.getElem?_eq_getElem hlt)
   refine .inr ⟨hgo, fun σ2 H2 => i + 1 ≤ ps.length ∧ ∃ G2 env2, SR W H0 env2 σ2 G2 H2 ∧ Grow G1 H0 G2 H2 ∧ OutS W H0 G2 E (forL f (ps.drop (i + 1)) env2) D, fun σ2 H2 h2 => ⟨ps.length - (i + 1), by omega, h2.1, rfl, h2.2⟩, fun x H'' hy => ?_⟩
   obtain ⟨G'', g'', rx⟩ := hyld x H'' hy
   rw [List.drop_eq_getElem_cons hlt] at o'
   unfold forL at o'
   have hfe : f ps[i] env' = (tg.put ps[i] env').bind fun env' => exSs F b env' := by rw [← hf]
   rw [hfe] at o'
   have sr2 := sr'.grow g''
   have g2 := g'.then (sr'.on g'')
   cases r : tg.put ps[i] env' with
   | bad => rw [r] at o'; exact o'.elim
   | exc c => exact absurd r (noexc_put c)
   | ok env2 =>
    rw [r] at o'
    refine gT_put S.C.K r sr2 rx fun σ2 sr3 => ⟨G'', env2, sr3, ?_⟩
    have o2 : OutS W H0 G'' E ((exSs F b env2).bind fun fl => match fl with
     | .nx env' => forL f (ps.drop (i + 1)) env'
     | .ct env' => forL f (ps.drop (i + 1)) env'
     | .bk env' => .ok (.nx env')
     | .rt p => .ok (.rt p)) D := OutS.on o' (sr'.on g'')
    cases r2 : exSs F b env2 with
    | bad => rw [r2] at o2; exact o2.elim
    | exc cc => rw [r2] at o2; exact o2
    | ok fl =>
     rw [r2] at o2
     cases fl with
     | nx env3 => exact fun σ3 G3 H3 sr4 g3 => ⟨hlt, G3, env3, sr4, g2.then g3, OutS.on (show OutS W H0 G'' E (forL f (ps.drop (i + 1)) env3) D from o2) g3⟩
     | ct env3 => exact fun σ3 G3 H3 sr4 g3 => ⟨hlt, G3, env3, sr4, g2.then g3, OutS.on (show OutS W H0 G'' E (forL f (ps.drop (i + 1)) env3) D from o2) g3⟩
     | bk env3 => exact fun σ3 G3 H3 sr4 g3 => o2 σ3 G3 H3 sr4 g3
     | rt q => exact fun v G3 H3 rv g3 => o2 v G3 H3 rv g3
theorem gss_nil : GSs X W F H0 E .nil [] := L2.PSs.imp pss_nil fun D σ H h => by
 obtain ⟨G, env, sr, o⟩ := h
 rw [exSs] at o
 exact o σ G H sr sr.go
theorem gss_cons {s : Ci.S} {ss : Ss} {p : Stmt} {ps : List Stmt} (h1 : GS X W F H0 E s p) (h2 : GSs X W F H0 E ss ps) : GSs X W F H0 E (.cons s ss) (p :: ps) :=
 L2.PSs.imp (pss_cons h1 h2) fun D σ H h => by
  obtain ⟨G, env, sr, o⟩ := h
  rw [exSs] at o
  refine ⟨G, env, sr, ?_⟩
  cases r : exS F s env with
  | bad => rw [r] at o; exact o
  | exc c => rw [r] at o; exact o
  | ok f =>
   rw [r] at o
   cases f with
   | nx env2 => exact fun σ2 G2 H2 sr2 g2 => ⟨G2, env2, sr2, OutS.on (show OutS W H0 G E (exSs F ss env2) D from o) g2⟩
   | bk env2 => exact o
   | ct env2 => exact o
   | rt q => exact o
theorem gss_frz {i : Nat} {ss : Ss} {ps : List Stmt} (h : GSs X W F H0 E ss ps) : GSs X W F H0 E (.cons (.frz i) ss) ps :=
 L2.PSs.imp h fun D σ H hq => by
  obtain ⟨G, env, sr, o⟩ := hq
  rw [exSs, exS] at o
  obtain ⟨G', sr', g'⟩ := frz_ok sr sr.go i
  exact ⟨G', _, sr', OutS.on (show OutS W H0 G E (exSs F ss (env.modify i frzS)) D from o) g'⟩
end
end Ci
set_option maxHeartbeats 8000000
namespace Ci
open PySem L2
section
variable {Γ : Pg} {X : Cx} {W : Wd} {F : Fns} {N : List Str} {sc : Scope} {k : Nat} {H0 : Hp} {E : XK}
theorem mt_extendR (hK : W.K = X.K) : MtR X "list.extend" (fun x vs H Q => ∃ l b xs zs, x = .ref l ∧ vs = [.ref b] ∧ H l = some (.lst xs) ∧ LsR W.K H b zs ∧ xs.length + zs.length ≤ sizeLine ∧ Q .non (upd H l (.lst (xs ++ zs)))) := by
 intro pins s σ H x vs v us Q I rx rv h
 obtain ⟨l, b, xs, zs, rfl, rfl, hH, hB, hz, q⟩ := h
 cases rx
 obtain ⟨u, rfl, ru⟩ := Vals.one rv
 cases ru
 obtain ⟨z, its, n, r, hl, e⟩ := I.lstM hH
 obtain ⟨its2, n2, r2, hl2, z2, e2⟩ := lstR hK I hB
 have hsz : its.toArray.size + its2.toArray.size ≤ sizeLine := by rw [List.size_toArray, List.size_toArray]; omega
 have hlong : ¬ (!its.toArray.isEmpty && Builtin.List.listTooLong (its.toArray.size + its2.toArray.size)) = true := by
  rw [notLongL hsz, Bool.and_false]
  exact Bool.false_ne_true
 refine PySem.call_meets PySem.F.slot_list_extend ⟨_, e, rfl⟩ PySem.F.entry_list_extend (PySem.F.args_list_extend_2 _ _)
  (PySem.AutoSeq1.list_extend_list_list_0 l its.toArray n b its2.toArray n2 hlong (by rw [List.size_toArray]; omega) (by omega)) ⟨e, e2, ?_⟩
 refine ⟨.non, _, I.lset (its' := its ++ its2) hH e (by simp) (r.append r2) ?_, rfl, q⟩
 rw [List.length_append]
 omega
theorem pe_own (S : CxS Γ F W N sc k E X) {i : Nat} {x : Str} {pos : Pos} (h : N[i]? = some x) (hv : visB sc x = true) (ho : okN x = true) : PE X (.Name x pos) (tVar i) :=
 pe_var (by rw [S.C.hN]; exact h) (vis_of S.C hv) (okN_d ho).1 (okN_d ho).2.1
theorem own_lst {env : Sl} {σ : St} {G H : Hp} {i : Nat} {xs : List PV} (sr : SR W H0 env σ G H) (h : env[i]? = some (.own (.lst xs))) : ∃ a vs, σ[i]? = some (some (.ref a)) ∧ H a = some (.lst vs) ∧ G a = none ∧ H0 a = none ∧ RepL W G xs vs := by
 obtain ⟨o, ho, v, rfl, a, vs, rfl, h1, h2, h3, l⟩ := sr.slot i _ h
 exact ⟨a, vs, ho, h1, h2, h3, l⟩
theorem gs_app (S : CxS Γ F W N sc k E X) {i : Nat} {x : Str} {e : Ci.E} {p : Expr} {np apos cpos pos : Pos} (h : N[i]? = some x) (hv : visB sc x = true) (ho : okN x = true) (hline : (apos.endLine == cpos.line) = true) (hesc : esc e = true) (he : GE X W F e p)
 (hst : ∀ env ps, starEach (p :: ps) env = (false, eval p env) :: starEach ps env) : GS X W F H0 E (.app i e) (.Expr (.Call (.Attribute (.Name x np) "append" apos) [p] [] cpos) pos) := by
 refine L2.PS.imp (ps_expr (pe_bm PySem.F.plainAttrs_list PySem.F.slot_list_append PySem.F.type_list_append mt_append (pe_own S h hv ho) (pa_cons he pa_nil (hst _ _)) rfl (by rw [hst]; rfl) hline (hst _ _) rfl) rfl) fun D σ H hq => ?_
 obtain ⟨G, env, sr, o⟩ := hq
 rw [exS] at o
 split at o
 ·rename_i xs hx
  obtain ⟨a, vs, hs, h1, h2, h3, l⟩ := own_lst sr hx
  refine ⟨.ref a, hs, .inl ⟨rfl, _, SqL.of h1⟩, oneS S sr o fun q v G1 H1 g t sr1 o1 => ?_⟩
  split at o1
  ·rename_i hl
   have h1' := g.h _ _ h1
   have h2' := g.own a (by rw [h1]; exact fun z => nomatch z) h2
   have l' := RepL.same g.g xs l
   refine ⟨a, vs, v, rfl, rfl, h1', by rw [l.length]; exact Nat.lt_of_lt_of_le hl (by decide), ?_⟩
   obtain ⟨r2, g2⟩ := mut_ok (p' := .lst (xs ++ [q])) (ob := .lst (vs ++ [v])) sr1 sr1.go hx hs h2' h3 ⟨a, _, rfl, upd_same, h2', h3, l'.append (.cons (t.rep hesc) .nil)⟩
   exact o1 _ G1 _ r2 g2
  ·exact o1.elim
 ·exact o.elim
theorem gs_extd (S : CxS Γ F W N sc k E X) {i : Nat} {x : Str} {e : Ci.E} {p : Expr} {np apos cpos pos : Pos} (h : N[i]? = some x) (hv : visB sc x = true) (ho : okN x = true) (hline : (apos.endLine == cpos.line) = true) (he : GE X W F e p)
 (hst : ∀ env ps, starEach (p :: ps) env = (false, eval p env) :: starEach ps env) : GS X W F H0 E (.extd i e) (.Expr (.Call (.Attribute (.Name x np) "extend" apos) [p] [] cpos) pos) := by
 refine L2.PS.imp (ps_expr (pe_bm PySem.F.plainAttrs_list PySem.F.slot_list_extend PySem.F.type_list_extend (mt_extendR S.C.K) (pe_own S h hv ho) (pa_cons he pa_nil (hst _ _)) rfl (by rw [hst]; rfl) hline (hst _ _) rfl) rfl) fun D σ H hq => ?_
 obtain ⟨G, env, sr, o⟩ := hq
 rw [exS] at o
 split at o
 ·rename_i xs hx
  obtain ⟨a, vs, hs, h1, h2, h3, l⟩ := own_lst sr hx
  refine ⟨.ref a, hs, .inl ⟨rfl, _, SqL.of h1⟩, oneS S sr o fun q v G1 H1 g t sr1 o1 => ?_⟩
  split at o1
  ·rename_i ys
   split at o1
   ·rename_i hl
    have h1' := g.h _ _ h1
    have h2' := g.own a (by rw [h1]; exact fun z => nomatch z) h2
    have l' := RepL.same g.g xs l
    obtain ⟨b, us, rfl, hb, lb⟩ := t.top.lst sr1.sub
    refine ⟨a, b, vs, us, rfl, rfl, h1', hb, by rw [l.length, lb.length]; exact lim_le hl, ?_⟩
    obtain ⟨r2, g2⟩ := mut_ok (p' := .lst (xs ++ ys)) (ob := .lst (vs ++ us)) sr1 sr1.go hx hs h2' h3 ⟨a, _, rfl, upd_same, h2', h3, l'.append lb⟩
    exact o1 _ G1 _ r2 g2
   ·exact o1.elim
  ·exact o1.elim
 ·exact o.elim
theorem gs_put (S : CxS Γ F W N sc k E X) {i : Nat} {x : Str} {kk e : Ci.E} {pk p : Expr} {np spos pos : Pos} (h : N[i]? = some x) (hv : visB sc x = true) (ho : okN x = true) (hn : noComp p = true) (hesc : esc e = true) (hck : chkE Γ N sc kk pk = true) (hk : GE X W F kk pk) (he : GE X W F e p) : GS X W F H0 E (.put i kk e) (.Assign [.Subscript (.Name x np) pk spos] p pos) := by
 have hsw : swappedStores [.Subscript (.Name x np) pk spos] p X.env = pure none := by cases p <;> rfl
 have ha : ∀ v, assign (.Subscript (.Name x np) pk spos) X.env v = (do
  let ov ← holding [v] (eval (.Name x np) X.env)
  let iv ← holding [v, ov] (eval pk X.env)
  standAt spos
  holding [v, ov, iv] (setItem ov iv v)
  release [v, ov, iv] []) := by
  intro v
  cases pk <;> first | rfl | (cases kk <;> first | (exact absurd hck Bool.false_ne_true) | (rename_i q; cases q <;> exact absurd hck Bool.false_ne_true))
 refine L2.PS.imp (ps_asg he (pg_sub (pe_own S h hv ho) hk set_list ha) (by unfold swapsWithSole; exact sw_none hn) hsw) fun D σ H hq => ?_
 obtain ⟨G, env, sr, o⟩ := hq
 rw [exS] at o
 refine oneS S sr o fun q v G1 H1 g t sr1 o1 => ?_
 split at o1
 ·rename_i xs hx
  obtain ⟨a, vs, hs, h1, h2, h3, l⟩ := own_lst sr1 hx
  refine ⟨.ref a, hs, oneS S sr1 o1 fun q2 v2 G2 H2 g2 t2 sr2 o2 => ?_⟩
  split at o2
  ·rename_i n
   cases r : ixN xs.length n with
   | none => rw [r] at o2; exact o2.elim
   | some j =>
    rw [r] at o2
    have h1' := g2.h _ _ h1
    have h2' := g2.own a (by rw [h1]; exact fun z => nomatch z) h2
    have l' := RepL.same g2.g xs l
    refine ⟨a, vs, n, j, rfl, t2.top.int, h1', by rw [l.length]; exact r, ?_⟩
    obtain ⟨r2, gg⟩ := mut_ok (p' := .lst (xs.set j q)) (ob := .lst (vs.set j v)) sr2 sr2.go hx hs h2' h3 ⟨a, _, rfl, upd_same, h2', h3, l'.set j (Rep.same g2.g q (t.rep hesc))⟩
    exact o2 _ G2 _ r2 gg
  ·exact o2.elim
 ·exact o1.elim
theorem gs_pop (S : CxS Γ F W N sc k E X) {i j : Nat} {x y : Str} {np yp apos cpos pos : Pos} (h : N[i]? = some x) (hv : visB sc x = true) (ho : okN x = true) (hline : (apos.endLine == cpos.line) = true) (hy : N[j]? = some y) (hl : locB sc y = true) : GS X W F H0 E (.pop j i) (.Assign [.Name y yp] (.Call (.Attribute (.Name x np) "pop" apos) [] [] cpos) pos) := by
 obtain ⟨a1, a2, a3⟩ := asg_name S hy hl
 refine L2.PS.imp (ps_set a1 a2 a3 (pe_bm0 PySem.F.plainAttrs_list PySem.F.slot_list_pop PySem.F.type_list_pop mt_pop (pe_own S h hv ho) rfl hline) rfl (.inl (S.fn y))) fun D σ H hq => ?_
 obtain ⟨G, env, sr, o⟩ := hq
 rw [exS] at o
 split at o
 ·rename_i xs hx
  obtain ⟨a, vs, hs, h1, h2, h3, l⟩ := own_lst sr hx
  cases r : xs[xs.length - 1]? with
  | none => rw [r] at o; exact o.elim
  | some p =>
   rw [r] at o
   obtain ⟨v, hv2, rv⟩ := l.getP r
   refine ⟨.ref a, hs, .inl ⟨rfl, _, SqL.of h1⟩, a, vs, v, rfl, rfl, h1, by rw [l.length]; exact hv2, ?_⟩
   have ld : RepL W G xs.dropLast vs.dropLast := by
    rw [List.dropLast_eq_take, List.dropLast_eq_take, l.length]
    exact l.take _
   obtain ⟨r2, gg⟩ := mut_ok (p' := .lst xs.dropLast) (ob := .lst vs.dropLast) sr sr.go hx hs h2 h3 ⟨a, _, rfl, upd_same, h2, h3, ld⟩
   exact o _ G _ (r2.set j rv) gg
 ·exact o.elim
theorem gs_aug (S : CxS Γ F W N sc k E X) {i : Nat} {x : Str} {e : Ci.E} {p : Expr} {np pos : Pos} (h : N[i]? = some x) (hl : locB sc x = true) (he : GE X W F e p) : GS X W F H0 E (.aug i .add e) (.AugAssign (.Name x np) .Add p pos) := by
 obtain ⟨a1, a2, a3⟩ := asg_name S h hl
 refine L2.PS.imp (ps_aug a1 a2 a3 he ip_add (.inl (S.fn x))) fun D σ H hq => ?_
 obtain ⟨G, env, sr, o⟩ := hq
 rw [exS] at o
 cases r : env[i]? with
 | none => rw [r] at o; exact o.elim
 | some sl =>
  rw [r] at o
  cases sl with
  | no => exact o.elim
  | own p => exact o.elim
  | val q =>
   obtain ⟨o2, hs, v, rfl, rv⟩ := sr.slot i _ r
   refine ⟨v, hs, ?_⟩
   have o' : OutS W H0 G E ((evE F e env).bind fun y => (match q, y with | .int _, .int _ => binOp .add q y | _, _ => .bad).bind fun p => .ok (.nx (env.set i (.val p)))) D := o
   refine oneS S sr o' fun y u G1 H1 g t sr1 o1 => ?_
   cases q <;> cases y <;> first | (exact False.elim o1) | skip
   rename_i m n
   simp only [Rep] at rv
   subst rv
   exact ⟨m, n, rfl, t.top.int, o1 _ G1 H1 (sr1.set i .i) sr1.go⟩
end
end Ci
set_option maxHeartbeats 8000000
namespace Ci
open PySem L2
section
variable {Γ : Pg} {X : Cx} {W : Wd} {F : Fns} {N : List Str} {sc : Scope} {k : Nat} {H0 : Hp} {E : XK}
def PassAt (X : Cx) (E : XK) (σ : St) : Prop := ∀ (pins : List (Addr × Obj)) (H : Hp) (s : Shared) (e : Value) (s' : Shared), Inv X pins σ H s → CX1 X.prog X.w X.stack H s E e s' → X.xe e s'
theorem rais_at {σ : St} (S : PassAt X E σ) {c : Str} {Gs G H : Hp} (g : Grow Gs H0 G H) (h : ∀ Cv ao H', XE W c Gs H0 Cv ao H' → E Cv ao H') : Rais X W σ c G H := fun pins G1 H1 s1 e s' I g1 x =>
 S pins H1 s1 e s' I (Fly.imp x fun Cv a H' y => h Cv a H' (by
  obtain ⟨C, a', G', e1, e2, e3, e4, g2⟩ := y
  have g3 := g1.trans g2
  exact ⟨C, a', G', e1, e2, e3, e4, g.g.trans g3.g, g.h.trans g3.h, g3.sub, fun x h1 h2 => g3.own x (fun z => h1 (g.h.free z)) (g.own x h1 h2)⟩))
theorem OutS.bindAt {α : Type} {σ : St} (S : PassAt X E σ) {r : Res α} {f : α → Res Fl} {D : Ends} {env : Sl} {G H : Hp} (sr : SR W H0 env σ G H) (h : OutS W H0 G E (r.bind f) D) : Out X W r σ G H fun a => OutS W H0 G E (f a) D := by
 cases r with
 | ok a => exact h
 | exc c => exact rais_at S sr.go h
 | bad => exact h
theorem oneAt {σ : St} (S : PassAt X E σ) {env : Sl} {G H : Hp} {e : Ci.E} {f : PV → Res Fl} {D : Ends} {Q : VK} (sr : SR W H0 env σ G H) (o : OutS W H0 G E ((evE F e env).bind f) D)
 (h : ∀ p v G1 H1, Grow G H G1 H1 → Got W H0 G1 H1 e p v → SR W H0 env σ G1 H1 → OutS W H0 G1 E (f p) D → Q v H1) : tE X W F e σ H Q :=
 ⟨H0, G, env, sr, (o.bindAt S sr).imp fun p hp v G1 H1 g1 t => h p v G1 H1 g1 t (sr.grow g1) (hp.on (sr.on g1))⟩
theorem oneAtT {σ : St} (S : PassAt X E σ) {env : Sl} {G H : Hp} {e : Ci.E} {f : Bool → Res Fl} {D : Ends} {Q : Bool → Hp → Prop} (sr : SR W H0 env σ G H) (o : OutS W H0 G E ((evE F e env).bind fun p => asB p f) D)
 (h : ∀ b G1 H1, Grow G H G1 H1 → SR W H0 env σ G1 H1 → OutS W H0 G1 E (f b) D → Q b H1) : tT X W F e σ H Q := by
 refine ⟨H0, G, env, sr, (o.bindAt S sr).imp fun p hp => ?_⟩
 cases p with
 | bl b => exact ⟨b, rfl, fun G1 H1 g1 => h b G1 H1 g1 (sr.grow g1) (OutS.on hp (sr.on g1))⟩
 | non => exact False.elim hp
 | int _ => exact False.elim hp
 | str _ => exact False.elim hp
 | tup _ => exact False.elim hp
 | lst _ => exact False.elim hp
 | exc _ => exact False.elim hp
 | dct _ _ => exact False.elim hp
theorem exSs_one {s : Ci.S} {env : Sl} : exSs F (.cons s .nil) env = exS F s env := by
 rw [exSs]
 cases exS F s env with
 | ok f =>
  cases f with
  | nx e => show exSs F .nil e = _; rw [exSs]
  | bk e => rfl
  | ct e => rfl
  | rt p => rfl
 | exc c => rfl
 | bad => rfl
theorem noCompT {e : Ci.E} {p : Expr} (h : chkE Γ N sc e p = true) (hf : isFresh e = false) : noComp p = true := by
 cases p <;> first | rfl | (cases e <;> first | (exact absurd h Bool.false_ne_true) | (rename_i q; cases q <;> exact absurd h Bool.false_ne_true) | (cases hf; done))
abbrev TS1 (σ0 : St) (t : TS) : TS := fun D σ H => σ = σ0 ∧ t D σ H
mutual
theorem tb1 {σ0 : St} (C : CxI Γ F W N sc k X) (fn : ∀ x, X.fn x = true) (hp : PassAt X E σ0) : ∀ (s : Ci.S) (p : Stmt), chkT1 Γ N sc s p = true → PS X p (TS1 σ0 (tS W F H0 E s))
 | .set i e, p, h => by
  cases p <;> first | (exact absurd h Bool.false_ne_true) | skip
  replace h := opt_any_of h
  simp only [Bool.and_eq_true, beq_iff_eq, Bool.not_eq_true'] at h
  obtain ⟨x, h0, ⟨⟨⟨h1, h2⟩, h3⟩, h4⟩, h5⟩ := h
  obtain ⟨xp, rfl⟩ := nm1_eq h0
  refine L2.PS.imp (ps_set (by rw [C.hN]; exact C.nd) (by rw [C.hN]; exact h1) (loc_of C.hsc h2) (sndE e C _ h5).ge (sw_none (noCompT h5 h4)) (.inl (fn x))) fun D σ H q => ?_
  obtain ⟨rfl, G, env, sr, o⟩ := q
  rw [exS] at o
  exact oneAt hp sr o fun q v G1 H1 g t sr1 o1 => o1 _ G1 H1 (sr1.set i (t.rep h3)) sr1.go
 | .ret e, p, h => by
  cases p <;> first | (exact absurd h Bool.false_ne_true) | skip
  rename_i v pos
  cases v with
  | none => exact absurd h Bool.false_ne_true
  | some v =>
   replace h := and_of h
   refine L2.PS.imp (ps_ret (sndE e C v h.2).ge) fun D σ H q => ?_
   obtain ⟨rfl, G, env, sr, o⟩ := q
   rw [exS] at o
   exact oneAt hp sr o fun q v G1 H1 g t sr1 o1 => o1 v G1 H1 (t.rep h.1) sr1.go
 | .ite c a b, p, h => by
  cases p <;> first | (exact absurd h Bool.false_ne_true) | skip
  replace h := and_of h
  simp only [Bool.and_eq_true] at h
  obtain ⟨⟨⟨h1, h2⟩, h3⟩, h4⟩ := h
  refine L2.PS.imp (ps_if ((sndE c C _ h2).gt h1) (tbs C fn hp a _ h3) (tbs C fn hp b _ h4)) fun D σ H q => ?_
  obtain ⟨rfl, G, env, sr, o⟩ := q
  rw [exS] at o
  refine oneAtT hp sr o fun t G1 H1 g sr1 o1 => ?_
  cases t with
  | true =>
   rw [if_pos rfl] at o1 ⊢
   exact ⟨rfl, G1, env, sr1, o1⟩
  | false =>
   rw [if_neg Bool.false_ne_true] at o1 ⊢
   exact ⟨rfl, G1, env, sr1, o1⟩
 | .expr _, _, h => absurd h Bool.false_ne_true
 | .unp _ _, _, h => absurd h Bool.false_ne_true
 | .own _ _, _, h => absurd h Bool.false_ne_true
 | .frz _, _, h => absurd h Bool.false_ne_true
 | .app _ _, _, h => absurd h Bool.false_ne_true
 | .extd _ _, _, h => absurd h Bool.false_ne_true
 | .put _ _ _, _, h => absurd h Bool.false_ne_true
 | .pop _ _, _, h => absurd h Bool.false_ne_true
 | .aug _ _ _, _, h => absurd h Bool.false_ne_true
 | .retN, _, h => absurd h Bool.false_ne_true
 | .for_ _ _ _, _, h => absurd h Bool.false_ne_true
 | .whl _ _, _, h => absurd h Bool.false_ne_true
 | .raise _ _, _, h => absurd h Bool.false_ne_true
 | .tryx _ _ _ _, _, h => absurd h Bool.false_ne_true
 | .brk, _, h => absurd h Bool.false_ne_true
 | .cont, _, h => absurd h Bool.false_ne_true
 | .pass, _, h => absurd h Bool.false_ne_true
theorem tbs {σ0 : St} (C : CxI Γ F W N sc k X) (fn : ∀ x, X.fn x = true) (hp : PassAt X E σ0) : ∀ (ss : Ss) (ps : List Stmt), chkT Γ N sc ss ps = true → PSs X ps (TS1 σ0 (tSs W F H0 E ss))
 | .nil, ps, h => absurd h Bool.false_ne_true
 | .cons s (.cons _ _), ps, h => absurd h Bool.false_ne_true
 | .cons s .nil, ps, h => by
  match ps, h with
  | [], h => exact absurd h Bool.false_ne_true
  | _ :: _ :: _, h => exact absurd h Bool.false_ne_true
  | [p], h =>
   have h : chkT1 Γ N sc s p = true := h
   refine L2.PSs.imp (pss_one (tb1 C fn hp s p h)) fun D σ H q => ?_
   obtain ⟨e, G, env, sr, o⟩ := q
   rw [exSs_one] at o
   exact ⟨e, G, env, sr, o⟩
end
theorem CxI.with1 (C : CxI Γ F W N sc k X) (pn : List (Addr × Obj)) (xe : Value → Shared → Prop) : CxI Γ F W N sc k (X.with1 pn xe) :=
 ⟨C.hN, C.hsc, C.calm, C.nd, C.K, C.mg, C.gs, C.bs, C.room, fun f h => ⟨(C.fns f h).ex⟩, C.nov, C.cls, C.xc⟩
theorem SR.vals {env : Sl} {σ : St} {G H G' H' : Hp} (r : SR W H0 env σ G H) (hn : env.any Slot.isOwn = false) (g : Grow G H0 G' H') : SR W H0 env σ G' H' := by
 have no : ∀ (i : Nat) (p : PV), env[i]? ≠ some (.own p) := fun i p e => by
  have : env.any Slot.isOwn = true := List.any_eq_true.mpr ⟨_, List.mem_of_getElem? e, rfl⟩
  rw [this] at hn
  cases hn
 refine ⟨r.len, g.sub, g.h, fun i s e => ?_, fun i j p q a e => absurd e (no i p)⟩
 obtain ⟨o, h1, h2⟩ := r.slot i s e
 refine ⟨o, h1, ?_⟩
 cases s with
 | no => exact trivial
 | val q =>
  obtain ⟨v, rfl, rv⟩ := h2
  exact ⟨v, rfl, Rep.same g.g q rv⟩
 | own q => exact absurd e (no i q)
theorem SR.drop {env : Sl} {σ : St} {G H : Hp} (i : Nat) (r : SR W H0 env σ G H) : SR W H0 (env.set i .no) (σ.set i none) G H where
 len := by simpa using r.len
 sub := r.sub
 base := r.base
 slot := fun j s e => by
  by_cases hj : i = j
  ·subst hj
   have hlt : i < env.length := by
    have := (List.getElem?_eq_some_iff.mp e).1
    simpa using this
   rw [List.getElem?_set_self hlt] at e
   cases e
   exact ⟨none, List.getElem?_set_self (by rw [← r.len]; exact hlt), trivial⟩
  ·rw [List.getElem?_set_ne hj] at e
   obtain ⟨o, h1, h2⟩ := r.slot j s e
   exact ⟨o, by rw [List.getElem?_set_ne hj]; exact h1, h2⟩
 apart := fun a b q q' ad e1 e2 e3 e4 => by
  have ne : ∀ {c : Nat} {q : PV}, (env.set i .no)[c]? = some (.own q) → i ≠ c := fun {c q} e z => by
   subst z
   have hlt : i < env.length := by
    have := (List.getElem?_eq_some_iff.mp e).1
    simpa using this
   rw [List.getElem?_set_self hlt] at e
   cases e
  have n1 := ne e1
  have n2 := ne e2
  rw [List.getElem?_set_ne n1] at e1 e3
  rw [List.getElem?_set_ne n2] at e2 e4
  exact r.apart a b q q' ad e1 e2 e3 e4
theorem Same.put {G G' : Hp} {a : Addr} {o : HO} (h : Same G G') (ha : G a = none) : Same G (upd G' a o) := fun b u e => by
 rw [upd_ne (fun z => by subst z; rw [ha] at e; cases e)]
 exact h b u e
theorem gs_try (S : CxS Γ F W N sc k E X) (b : Ss) (c : Str) (i j : Nat) (p : Stmt) (h : chkS Γ N sc (.tryx b c i j) p = true) : GS X W F H0 E (.tryx b c i j) p := by
 cases p <;> first | (exact absurd h Bool.false_ne_true) | skip
 rename_i pb hs o1 o2 pos
 replace h := and_of h
 simp only [Bool.and_eq_true, Option.any_eq_true, beq_iff_eq] at h
 obtain ⟨⟨⟨z1, z2⟩, hb⟩, ⟨x, n, y⟩, hh, ⟨⟨⟨⟨⟨⟨⟨⟨e1, e2⟩, e3⟩, e4⟩, e5⟩, e6⟩, e7⟩, e8⟩, e9⟩, e10⟩ := h
 cases List.isEmpty_iff.mp z1
 cases List.isEmpty_iff.mp z2
 obtain ⟨np, yp, n2p, ap, hpos, rfl⟩ := hd1_eq hh
 dsimp only at e1 e2 e3 e4 e5 e6 e7 e8 e9 e10
 subst e1
 subst e3
 have hcs : Γ.cs.contains "FloorError" = true := e2
 obtain ⟨Dc, hm⟩ := S.C.cls _ (List.contains_iff_mem.mp hcs)
 have hN : X.N.Nodup := by rw [S.C.hN]; exact S.C.nd
 have hi : X.N[i]? = some n := by rw [S.C.hN]; exact e6
 have hj : X.N[j]? = some y := by rw [S.C.hN]; exact e9
 have hln : X.env.scope.names.lookup n = some .local := by rw [S.C.hsc]; exact e7
 have hly : X.env.scope.names.lookup y = some .local := by rw [S.C.hsc]; exact e10
 intro pins s σ H D I hq
 obtain ⟨G, env, sr, o⟩ := hq
 rw [exS] at o
 cases hn : env.any Slot.isOwn with
 | true => rw [if_pos hn] at o; exact o.elim
 | false =>
 rw [if_neg (by rw [hn]; exact Bool.false_ne_true)] at o
 let E1 : XK := fun Cv ao H' => ∃ d, exSs F b env = .exc d ∧ XE W d G H0 Cv ao H'
 let xe : Value → Shared → Prop := fun e s' => ∃ H1 s1, Inv X pins σ H1 s1 ∧ CX1 X.prog X.w X.stack H1 s1 E1 e s'
 have hP : PassAt (X.with1 (X.pn ++ pins) xe) E1 σ := fun pins' H1 s1 e s' I1 c => ⟨H1, s1, I1.unwith1 I.ok, c⟩
 have ob : OutS W H0 G E1 (exSs F b env) D := by
  cases r : exSs F b env with
  | ok f => rw [r] at o; exact o
  | exc d => exact fun Cv ao H' x => ⟨d, r, x⟩
  | bad => rw [r] at o; exact o
 refine wpAny_Try_except (wpAny_mono (tbs (H0 := H0) (S.C.with1 (X.pn ++ pins) xe) S.fn hP b pb hb [] s σ H D I.with1 ⟨rfl, G, env, sr, ob⟩) (fun f s1 hf => ?_) fun e s1 hx => ?_)
 ·cases f with
  | next =>
   obtain ⟨σ', H', I', q⟩ := hf
   exact pss_nil pins s1 σ' H' D (I'.unwith1 I.ok) q
  | brk =>
   obtain ⟨σ', H', I', q⟩ := hf
   exact ⟨σ', H', I'.unwith1 I.ok, q⟩
  | cont =>
   obtain ⟨σ', H', I', q⟩ := hf
   exact ⟨σ', H', I'.unwith1 I.ok, q⟩
  | ret u =>
   obtain ⟨v, σ', H', I', r, q⟩ := hf
   exact ⟨v, σ', H', I'.unwith1 I.ok, r, q⟩
 ·obtain ⟨H1, s2, I1, a, C, t, vs, H', B, rfl, Fy⟩ := hx
  have hfl := Fy.fly
  rw [S.stk] at hfl
  refine wpAny_looks_onW (by rw [← S.stk]; exact I1.ok.frames) S.frame hfl fun h4 held4 sm4 => ?_
  refine wpAny_landsW held4 fun h5 held5 sm5 => ?_
  have fl5 := held5
  rw [← S.stk] at fl5
  have I5 := I1.caught (tk := s1.toks) Fy fl5 (sm4.trans sm5)
  obtain ⟨oa, va, ea, ca, da, _⟩ := fl5.first
  obtain ⟨d, ed, C', a', G', q1, q2, hdx, hdm, gr⟩ := Fy.ends
  cases q1
  cases q2
  have hx : PySem.W.exmOne X.K (.ref C) (.ref Dc) = some true := S.exm hcs d C hdx (by rw [← S.C.mg]; exact hdm) Dc hm
  refine wpAny_handleBy_cons (codeAny_handlers_test (ld_glob (X := X.marked a (X.pn ++ pins)) I5.mark (gl_of S.C e4) hm ?_ (okN_d e5).1)) (by intro q; cases q)
  have LT : PySem.W.Looks (model X.prog X.w) h5 (typeOf (.ref a)) (.ref C) := by
   rw [← ca]
   exact (PySem.W.Looks.ld ea).andThen .now
  refine PySem.W.exm_one (K := X.K) I5.kIn LT hx _ _ _ _ (fun _ _ e => e) ?_
  refine codeAny_handlers_suite_as ?_
  refine PyProof.Rows.lands_againW held5 fun h6 fl6 sm6 => ?_
  rw [← S.stk] at fl6
  have I6 := I1.caught (tk := s1.toks) Fy fl6 ((sm4.trans sm5).trans sm6)
  have ha : H' a = none := Fy.fresh
  have hG' : G' a = none := gr.sub.free ha
  have hH0 : H0 a = none := gr.h.free ha
  have hG : G a = none := gr.g.free hG'
  have gr2 : Grow G H0 (upd G' a (excO a C)) (upd H' a (excO a C)) := ⟨Same.put gr.g hG, Same.put gr.h hH0, fun q u e => by
   by_cases hq : q = a
   ·subst hq; rw [upd_same] at e ⊢; exact e
   ·rw [upd_ne hq] at e ⊢; exact gr.sub q u e, fun q w1 w2 => by
   rw [upd_ne (fun z => by subst z; exact w1 hH0)]
   exact gr.own q w1 w2⟩
  have rp : Rep W (upd G' a (excO a C)) (.exc d) (.ref a) := by
   simp only [Rep]
   exact ⟨a, C, rfl, hdx, hdm, upd_same⟩
  have sr2 : SR W H0 ((env.set j (.val (.exc d))).set i .no) (((σ.set i (some (.ref a))).set j (some (.ref a))).set i none) (upd G' a (excO a C)) (upd H' a (excO a C)) := by
   have z := (((sr.vals hn gr2).set i rp).set j rp).drop i
   have eq : ((env.set i (.val (.exc d))).set j (.val (.exc d))).set i .no = (env.set j (.val (.exc d))).set i .no := by
    by_cases hij : i = j
    ·subst hij; rw [List.set_set]
    ·rw [List.set_comm _ _ hij, List.set_set]
   rw [eq] at z
   exact z
  have fin : D.nx (((σ.set i (some (.ref a))).set j (some (.ref a))).set i none) (upd H' a (excO a C)) := by
   rw [ed] at o
   exact o _ _ _ sr2 gr2
  have hil : i < σ.length := by rw [I1.len]; exact (List.getElem?_eq_some_iff.mp hi).1
  refine store_ok (X := X.marked a (X.pn ++ pins)) (i := i) (v := .ref a) I6.mark hN hi (.inl hln) rfl (fun s7 I7 => ?_) (.inr hln)
  have hs : PSs (X.marked a (X.pn ++ pins)) [.Assign [.Name y yp] (.Name n n2p) ap] (tAsg (tVar i) (gName j)) := pss_one (ps_set (X := X.marked a (X.pn ++ pins)) hN hj (.inl hly) (pe_var hi (.inl hln) (okN_d e8).1 (okN_d e8).2.1) rfl (.inr hly))
  refine wpAny_mono (hs [] s7 _ _ { nx := fun σ2 H2 => D.nx (σ2.set i none) H2, rt := fun v H2 => D.rt v H2, bk := fun σ2 H2 => D.bk (σ2.set i none) H2, ct := fun σ2 H2 => D.ct (σ2.set i none) H2 } I7 ?hq) (fun f s8 hf => ?_) fun _ _ z => z.elim
  case hq => exact ⟨.ref a, List.getElem?_set_self hil, fin⟩
  cases f with
  | next =>
   obtain ⟨σ8, H8, I8, q8⟩ := hf
   exact gone_ok (I8.unmark I.ok) hN hi hln fun s9 I9 => ⟨_, H8, I9, q8⟩
  | brk =>
   obtain ⟨σ8, H8, I8, q8⟩ := hf
   exact gone_ok (I8.unmark I.ok) hN hi hln fun s9 I9 => ⟨_, H8, I9, q8⟩
  | cont =>
   obtain ⟨σ8, H8, I8, q8⟩ := hf
   exact gone_ok (I8.unmark I.ok) hN hi hln fun s9 I9 => ⟨_, H8, I9, q8⟩
  | ret u =>
   obtain ⟨v, σ8, H8, I8, r8, q8⟩ := hf
   exact gone_ok (I8.unmark I.ok) hN hi hln fun s9 I9 => ⟨v, _, H8, I9, r8, q8⟩
end
end Ci
set_option maxHeartbeats 8000000
namespace Ci
open PySem L2
section
variable {Γ : Pg} {X : Cx} {W : Wd} {F : Fns} {N : List Str} {sc : Scope} {k : Nat} {H0 : Hp} {E : XK}
theorem comp_is {kk : Nat} {cap : List Nat} {tg : Tg} {it : I} {elt : Ci.E} : ∀ env q, evE F (.comp kk cap tg it elt) env = .ok q → ∃ xs, q = .lst xs := fun env q e => by
 rw [evE] at e
 obtain ⟨ps, _, e⟩ := Res.bind_ok e
 split at e
 ·obtain ⟨ys, _, e⟩ := Res.bind_ok e
  cases e
  exact ⟨_, rfl⟩
 ·cases e
theorem compIf_is {kk : Nat} {cap : List Nat} {tg : Tg} {it : I} {c elt : Ci.E} : ∀ env q, evE F (.compIf kk cap tg it c elt) env = .ok q → ∃ xs, q = .lst xs := fun env q e => by
 rw [evE] at e
 obtain ⟨ps, _, e⟩ := Res.bind_ok e
 split at e
 ·obtain ⟨ys, _, e⟩ := Res.bind_ok e
  cases e
  exact ⟨_, rfl⟩
 ·cases e
theorem fresh_is {e : Ci.E} (h : isFresh e = true) : ∀ env q, evE F e env = .ok q → ∃ xs, q = .lst xs := by
 cases e <;> first | (exact absurd h Bool.false_ne_true) | exact lst_is | exact comp_is | exact compIf_is
theorem asg_fresh (S : CxS Γ F W N sc k E X) {i : Nat} {x : Str} {xp pos : Pos} (hx : N[i]? = some x) (hlx : locB sc x = true) : ∀ (e : Ci.E) (p : Expr), isFresh e = true → chkE Γ N sc e p = true → PS X (.Assign [.Name x xp] p pos) (tAF X W F i e)
 | .lst as, p, _, h => by
  cases p <;> first | (exact absurd h Bool.false_ne_true) | skip
  replace h := and_of h
  try simp only [Bool.and_eq_true, decide_eq_true_eq] at h
  exact ps_asgF S hx hlx (gf_lst h.1.1 h.1.2 (sndEs as S.C _ h.2)) rfl
 | .comp kk cap tg it elt, p, _, h => by
  cases p <;> first | (exact absurd h Bool.false_ne_true) | skip
  rename_i pelt gens scope ppos
  match gens, h with
  | [⟨ptg, pit, [], asy⟩], h =>
   replace h := and_of h
   simp only [Bool.and_eq_true] at h
   obtain ⟨⟨⟨⟨⟨⟨h1, h2⟩, h3⟩, h4⟩, h5⟩, h6⟩, hasy⟩ := h
   have hasy := of_decide_eq_true hasy
   subst hasy
   exact asg_comp S hx hlx (compC_of h1) h2 h3 (sndI it S.C ptg pit h4) (foldedI h4 _) h5 fun Y CY => (sndE elt CY pelt h6).ge
  | [], h => exact absurd h Bool.false_ne_true
  | ⟨_, _, [], _⟩ :: _ :: _, h => exact absurd h Bool.false_ne_true
  | ⟨_, _, [_], _⟩ :: _ :: _, h => exact absurd h Bool.false_ne_true
  | ⟨_, _, _ :: _ :: _, _⟩ :: _ :: _, h => exact absurd h Bool.false_ne_true
  | [⟨_, _, _ :: _, _⟩], h => exact absurd h Bool.false_ne_true
 | .compIf kk cap tg it c elt, p, _, h => by
  cases p <;> first | (exact absurd h Bool.false_ne_true) | skip
  rename_i pelt gens scope ppos
  match gens, h with
  | [⟨ptg, pit, [pc], asy⟩], h =>
   replace h := and_of h
   simp only [Bool.and_eq_true] at h
   obtain ⟨⟨⟨⟨⟨⟨⟨⟨h0, h1⟩, h2⟩, h3⟩, h4⟩, h5⟩, h6⟩, h7⟩, hasy⟩ := h
   have hasy := of_decide_eq_true hasy
   subst hasy
   exact asg_compIf S hx hlx (compC_of h1) h2 h3 (sndI it S.C ptg pit h4) (foldedI h4 _) h5 (fun Y CY => (sndE c CY pc h6).gt h0) fun Y CY => (sndE elt CY pelt h7).ge
  | [], h => exact absurd h Bool.false_ne_true
  | ⟨_, _, [], _⟩ :: _ :: _, h => exact absurd h Bool.false_ne_true
  | ⟨_, _, [_], _⟩ :: _ :: _, h => exact absurd h Bool.false_ne_true
  | ⟨_, _, _ :: _ :: _, _⟩ :: _ :: _, h => exact absurd h Bool.false_ne_true
  | [⟨_, _, [], _⟩], h => exact absurd h Bool.false_ne_true
  | [⟨_, _, _ :: _ :: _, _⟩], h => exact absurd h Bool.false_ne_true
 | .var _, _, z, _ => nomatch z
 | .tmp _, _, z, _ => nomatch z
 | .cst _, _, z, _ => nomatch z
 | .glob _ _, _, z, _ => nomatch z
 | .call _ _, _, z, _ => nomatch z
 | .blt _ _, _, z, _ => nomatch z
 | .ty _ _, _, z, _ => nomatch z
 | .isx _ _, _, z, _ => nomatch z
 | .mth _ _ _, _, z, _ => nomatch z
 | .bin _ _ _, _, z, _ => nomatch z
 | .cmp _ _ _, _, z, _ => nomatch z
 | .ch _ _ _ _ _, _, z, _ => nomatch z
 | .not _, _, z, _ => nomatch z
 | .neg _, _, z, _ => nomatch z
 | .and _ _, _, z, _ => nomatch z
 | .or _ _, _, z, _ => nomatch z
 | .ite _ _ _, _, z, _ => nomatch z
 | .tup _, _, z, _ => nomatch z
 | .sub _ _, _, z, _ => nomatch z
 | .slice _ _ _, _, z, _ => nomatch z
theorem noComp_of {e : Ci.E} {p : Expr} (h : chkE Γ N sc e p = true) (hf : isFresh e = false) : noComp p = true := by
 cases p <;> first | rfl | (cases e <;> first | (exact absurd h Bool.false_ne_true) | (rename_i q; cases q <;> exact absurd h Bool.false_ne_true) | (cases hf; done))
theorem gs_setAll (S : CxS Γ F W N sc k E X) {i : Nat} {x : Str} {e : Ci.E} {p : Expr} {xp pos : Pos} (h : N[i]? = some x) (hl : locB sc x = true) (hesc : esc e = true) (hc : chkE Γ N sc e p = true) : GS X W F H0 E (.set i e) (.Assign [.Name x xp] p pos) := by
 cases hf : isFresh e with
 | true => exact gs_setF S (fresh_is hf) hesc (asg_fresh S h hl e p hf hc)
 | false => exact gs_set S h hl hesc (sndE e S.C p hc).ge (sw_none (noComp_of hc hf))
theorem snd_expr (S : CxS Γ F W N sc k E X) (e : Ci.E) (p : Stmt) (h : chkS Γ N sc (.expr e) p = true) : GS X W F H0 E (.expr e) p := by
 cases p <;> first | (exact absurd h Bool.false_ne_true) | skip
 replace h := and_of h
 try simp only [Bool.and_eq_true] at h
 exact gs_expr S (sndE e S.C _ h.2).ge h.1
theorem snd_set (S : CxS Γ F W N sc k E X) (i : Nat) (e : Ci.E) (p : Stmt) (h : chkS Γ N sc (.set i e) p = true) : GS X W F H0 E (.set i e) p := by
 cases p <;> first | (exact absurd h Bool.false_ne_true) | skip
 replace h := opt_any_of h
 simp only [Option.any_eq_true, Bool.and_eq_true, beq_iff_eq] at h
 obtain ⟨x, h0, h1⟩ := h
 obtain ⟨xp, rfl⟩ := nm1_eq h0
 exact gs_setAll S h1.1.1.1 h1.1.1.2 h1.1.2 h1.2
theorem snd_own (S : CxS Γ F W N sc k E X) (i : Nat) (e : Ci.E) (p : Stmt) (h : chkS Γ N sc (.own i e) p = true) : GS X W F H0 E (.own i e) p := by
 cases p <;> first | (exact absurd h Bool.false_ne_true) | skip
 replace h := opt_any_of h
 simp only [Option.any_eq_true, Bool.and_eq_true, beq_iff_eq] at h
 obtain ⟨x, h0, h⟩ := h
 obtain ⟨xp, rfl⟩ := nm1_eq h0
 exact gs_ownF S h.1.1.1 (fresh_is h.1.2) (asg_fresh S h.1.1.1 h.1.1.2 e _ h.1.2 h.2)
theorem snd_unp (S : CxS Γ F W N sc k E X) (tg : Tg) (e : Ci.E) (p : Stmt) (h : chkS Γ N sc (.unp tg e) p = true) : GS X W F H0 E (.unp tg e) p := by
 cases p <;> first | (exact absurd h Bool.false_ne_true) | skip
 replace h := opt_any_of h
 simp only [Option.any_eq_true, Bool.and_eq_true] at h
 obtain ⟨t, h0, ⟨⟨⟨⟨h1, h2⟩, h3⟩, h4⟩, h5⟩, h6⟩ := h
 cases one1_eq h0
 exact gs_unp S h1 h2 h3 h4 h5 (sndE e S.C _ h6).ge
theorem snd_frz (S : CxS Γ F W N sc k E X) (i : Nat) (p : Stmt) (h : chkS Γ N sc (.frz i) p = true) : GS X W F H0 E (.frz i) p := by
 cases p <;> exact absurd h Bool.false_ne_true
theorem snd_app (S : CxS Γ F W N sc k E X) (i : Nat) (e : Ci.E) (p : Stmt) (h : chkS Γ N sc (.app i e) p = true) : GS X W F H0 E (.app i e) p := by
 cases p <;> first | (exact absurd h Bool.false_ne_true) | skip
 replace h := opt_any_of h
 simp only [Option.any_eq_true, Bool.and_eq_true, beq_iff_eq] at h
 obtain ⟨⟨x, m, args⟩, h0, ⟨⟨⟨⟨h1, h2⟩, h3⟩, h4⟩, h5⟩, q, h6, h7⟩ := h
 obtain ⟨np, apos, cpos, rfl, hl⟩ := mc1_eq h0
 cases one1_eq h6
 cases h4
 exact gs_app S h1 h2 h3 hl h5 (sndE e S.C q h7).ge (notStar h7)
theorem snd_extd (S : CxS Γ F W N sc k E X) (i : Nat) (e : Ci.E) (p : Stmt) (h : chkS Γ N sc (.extd i e) p = true) : GS X W F H0 E (.extd i e) p := by
 cases p <;> first | (exact absurd h Bool.false_ne_true) | skip
 replace h := opt_any_of h
 simp only [Option.any_eq_true, Bool.and_eq_true, beq_iff_eq] at h
 obtain ⟨⟨x, m, args⟩, h0, ⟨⟨⟨h1, h2⟩, h3⟩, h4⟩, q, h6, h7⟩ := h
 obtain ⟨np, apos, cpos, rfl, hl⟩ := mc1_eq h0
 cases one1_eq h6
 cases h4
 exact gs_extd S h1 h2 h3 hl (sndE e S.C q h7).ge (notStar h7)
theorem snd_put (S : CxS Γ F W N sc k E X) (i : Nat) (kk e : Ci.E) (p : Stmt) (h : chkS Γ N sc (.put i kk e) p = true) : GS X W F H0 E (.put i kk e) p := by
 cases p <;> first | (exact absurd h Bool.false_ne_true) | skip
 replace h := opt_any_of h
 simp only [Option.any_eq_true, Bool.and_eq_true, beq_iff_eq] at h
 obtain ⟨⟨x, pk⟩, h0, ⟨⟨⟨⟨⟨h1, h2⟩, h3⟩, h4⟩, h5⟩, h6⟩, h7⟩ := h
 obtain ⟨np, sp, rfl⟩ := sb1_eq h0
 exact gs_put S h1 h2 h3 h4 h5 h6 (sndE kk S.C pk h6).ge (sndE e S.C _ h7).ge
theorem snd_pop (S : CxS Γ F W N sc k E X) (j i : Nat) (p : Stmt) (h : chkS Γ N sc (.pop j i) p = true) : GS X W F H0 E (.pop j i) p := by
 cases p <;> first | (exact absurd h Bool.false_ne_true) | skip
 replace h := opt_any_of h
 simp only [Option.any_eq_true, Bool.and_eq_true, beq_iff_eq] at h
 obtain ⟨y, hy, ⟨x, m, args⟩, h0, ⟨⟨⟨⟨⟨h1, h2⟩, h3⟩, h4⟩, h5⟩, h6⟩, h7⟩ := h
 obtain ⟨yp, rfl⟩ := nm1_eq hy
 obtain ⟨np, apos, cpos, rfl, hl⟩ := mc1_eq h0
 cases List.isEmpty_iff.mp h5
 cases h4
 exact gs_pop S h1 h2 h3 hl h6 h7
theorem snd_aug (S : CxS Γ F W N sc k E X) (i : Nat) (o : Bop) (e : Ci.E) (p : Stmt) (h : chkS Γ N sc (.aug i o e) p = true) : GS X W F H0 E (.aug i o e) p := by
 cases p <;> first | (exact absurd h Bool.false_ne_true) | skip
 rename_i t op v pos
 cases t <;> first | (exact absurd h Bool.false_ne_true) | skip
 replace h := and_of h
 try simp only [Bool.and_eq_true, beq_iff_eq, decide_eq_true_eq] at h
 obtain ⟨⟨⟨⟨h1, h2⟩, h3⟩, h4⟩, h5⟩ := h
 cases o <;> first | (cases h3; done) | skip
 cases h4
 exact gs_aug S h1 h2 (sndE e S.C v h5).ge
theorem snd_ret (S : CxS Γ F W N sc k E X) (e : Ci.E) (p : Stmt) (h : chkS Γ N sc (.ret e) p = true) : GS X W F H0 E (.ret e) p := by
 cases p <;> first | (exact absurd h Bool.false_ne_true) | skip
 rename_i v pos
 cases v with
 | none => exact absurd h Bool.false_ne_true
 | some v =>
  replace h := and_of h
  try simp only [Bool.and_eq_true] at h
  exact gs_ret S h.1 (sndE e S.C v h.2).ge
theorem snd_retN (S : CxS Γ F W N sc k E X) (p : Stmt) (h : chkS Γ N sc .retN p = true) : GS X W F H0 E .retN p := by
 cases p <;> first | (exact absurd h Bool.false_ne_true) | skip
 rename_i v pos
 cases v with
 | none => exact gs_retN
 | some v => exact absurd h Bool.false_ne_true
theorem snd_raise (S : CxS Γ F W N sc k E X) (c m : Str) (p : Stmt) (h : chkS Γ N sc (.raise c m) p = true) : GS X W F H0 E (.raise c m) p := by
 cases p <;> first | (exact absurd h Bool.false_ne_true) | skip
 replace h := and_of h
 simp only [Option.any_eq_true, Bool.and_eq_true, beq_iff_eq] at h
 obtain ⟨hn, ⟨x, z⟩, h0, ⟨⟨⟨h1, h2⟩, h3⟩, h4⟩, h5⟩ := h
 obtain ⟨np, j, zp, cp, rfl⟩ := rz1_eq h0
 cases h1
 cases h2
 rename_i fr pos
 cases Option.isNone_iff_eq_none.mp hn
 exact gs_raise S h3 h4 h5
theorem snd_brk (S : CxS Γ F W N sc k E X)  (p : Stmt) (h : chkS Γ N sc (.brk) p = true) : GS X W F H0 E (.brk) p := by
 cases p <;> first | (exact absurd h Bool.false_ne_true) | skip
 exact gs_brk
theorem snd_cont (S : CxS Γ F W N sc k E X)  (p : Stmt) (h : chkS Γ N sc (.cont) p = true) : GS X W F H0 E (.cont) p := by
 cases p <;> first | (exact absurd h Bool.false_ne_true) | skip
 exact gs_cont
theorem snd_pass (S : CxS Γ F W N sc k E X)  (p : Stmt) (h : chkS Γ N sc (.pass) p = true) : GS X W F H0 E (.pass) p := by
 cases p <;> first | (exact absurd h Bool.false_ne_true) | skip
 exact gs_pass
theorem inv_ite {c : Ci.E} {a b : Ss} {p : Stmt} (h : chkS Γ N sc (.ite c a b) p = true) : ∃ q pa pb pos, p = .If q pa pb pos ∧ gtOk c = true ∧ chkE Γ N sc c q = true ∧ chkSs Γ N sc a pa = true ∧ chkSs Γ N sc b pb = true := by
 cases p <;> first | (exact absurd h Bool.false_ne_true) | skip
 replace h := and_of h
 try simp only [Bool.and_eq_true] at h
 exact ⟨_, _, _, _, rfl, h.1.1.1, h.1.1.2, h.1.2, h.2⟩
theorem inv_for {tg : Tg} {it : I} {b : Ss} {p : Stmt} (h : chkS Γ N sc (.for_ tg it b) p = true) : ∃ ptg pit pb pos, p = .For ptg pit pb [] pos ∧ chkTg N sc true tg ptg = true ∧ escI it = true ∧ chkI Γ N sc ptg it pit = true ∧ chkSs Γ N sc b pb = true := by
 cases p <;> first | (exact absurd h Bool.false_ne_true) | skip
 replace h := and_of h
 try simp only [Bool.and_eq_true] at h
 cases List.isEmpty_iff.mp h.1.1.1.1
 exact ⟨_, _, _, _, rfl, h.1.1.1.2, h.1.1.2, h.1.2, h.2⟩
theorem inv_whl {c : Ci.E} {b : Ss} {p : Stmt} (h : chkS Γ N sc (.whl c b) p = true) : ∃ q pb pos, p = .While q pb [] pos ∧ gtOk c = true ∧ chkE Γ N sc c q = true ∧ chkSs Γ N sc b pb = true := by
 cases p <;> first | (exact absurd h Bool.false_ne_true) | skip
 replace h := and_of h
 try simp only [Bool.and_eq_true] at h
 cases List.isEmpty_iff.mp h.1.1.1
 exact ⟨_, _, _, rfl, h.1.1.2, h.1.2, h.2⟩
theorem inv_nil {ps : List Stmt} (h : chkSs Γ N sc .nil ps = true) : ps = [] := by
 cases ps with
 | nil => rfl
 | cons _ _ => exact absurd h Bool.false_ne_true
theorem inv_cons {s : Ci.S} {ss : Ss} {ps : List Stmt} (h : chkSs Γ N sc (.cons s ss) ps = true) : (∃ i, s = .frz i ∧ chkSs Γ N sc ss ps = true) ∨ ∃ q qs, ps = q :: qs ∧ chkS Γ N sc s q = true ∧ chkSs Γ N sc ss qs = true := by
 by_cases hz : ∃ i, s = .frz i
 ·obtain ⟨i, rfl⟩ := hz
  exact .inl ⟨i, rfl, h⟩
 ·cases ps with
  | nil => cases s <;> first | (exact absurd ⟨_, rfl⟩ hz) | (exact absurd h Bool.false_ne_true)
  | cons p ps =>
   have h2 : (chkS Γ N sc s p && chkSs Γ N sc ss ps) = true := by
    cases s <;> first | (exact absurd ⟨_, rfl⟩ hz) | (exact h)
   rw [Bool.and_eq_true] at h2
   exact .inr ⟨p, ps, rfl, h2.1, h2.2⟩
mutual
theorem sndS (S : CxS Γ F W N sc k E X) : ∀ (s : Ci.S) (p : Stmt), chkS Γ N sc s p = true → GS X W F H0 E s p
 | .expr e, p, h => snd_expr S e p h
 | .set i e, p, h => snd_set S i e p h
 | .own i e, p, h => snd_own S i e p h
 | .unp tg e, p, h => snd_unp S tg e p h
 | .frz i, p, h => snd_frz S i p h
 | .app i e, p, h => snd_app S i e p h
 | .extd i e, p, h => snd_extd S i e p h
 | .put i kk e, p, h => snd_put S i kk e p h
 | .pop j i, p, h => snd_pop S j i p h
 | .aug i o e, p, h => snd_aug S i o e p h
 | .ret e, p, h => snd_ret S e p h
 | .retN, p, h => snd_retN S p h
 | .ite c a b, p, h => by
  obtain ⟨q, pa, pb, pos, rfl, h1, h2, h3, h4⟩ := inv_ite h
  exact gs_ite S ((sndE c S.C _ h2).gt h1) (sndSs S a _ h3) (sndSs S b _ h4)
 | .for_ tg it b, p, h => by
  obtain ⟨ptg, pit, pb, pos, rfl, h1, h2, h3, h4⟩ := inv_for h
  exact gs_for S h1 h2 (sndI it S.C ptg pit h3) (foldedI h3 _) (sndSs S b _ h4)
 | .whl c b, p, h => by
  obtain ⟨q, pb, pos, rfl, h1, h2, h3⟩ := inv_whl h
  exact gs_whl S ((sndE c S.C _ h2).gt h1) (sndSs S b _ h3)
 | .raise c m, p, h => snd_raise S c m p h
 | .tryx b c i j, p, h => gs_try S b c i j p h
 | .brk, p, h => snd_brk S p h
 | .cont, p, h => snd_cont S p h
 | .pass, p, h => snd_pass S p h
theorem sndSs (S : CxS Γ F W N sc k E X) : ∀ (ss : Ss) (ps : List Stmt), chkSs Γ N sc ss ps = true → GSs X W F H0 E ss ps
 | .nil, ps, h => by
  cases inv_nil h
  exact gss_nil
 | .cons s ss, ps, h => by
  rcases inv_cons h with ⟨i, e, h2⟩ | ⟨q, qs, e, h1, h2⟩
  ·have := gss_frz (i := i) (sndSs S ss ps h2)
   rw [← e] at this
   exact this
  ·rw [e]
   exact gss_cons (sndS S s q h1) (sndSs S ss qs h2)
end
end
end Ci
set_option maxHeartbeats 4000000
namespace L2
open PySem PySem.Spec PyProof.Rows
theorem kit_refs {K : PySem.W.Frag} {C c : Addr} {b : Bool} (h1 : PySem.W.isClsIn K c = true) (h2 : PySem.W.typeIn K (.ref c) = some (.type "type")) (h3 : PySem.W.subIn K (.ref C) (.ref c) = some b) (h4 : b = true ∨ (C == c) = false) : PySem.W.kitOne K (.ref C) (.ref c) = some b := by
 have k : PySem.W.kitCls K (.ref C) (.ref c) = some b := by
  show (if ((PySem.W.clsIn K c).isSome && PySem.W.typeIn K (.ref c) == some (.type "type")) = true then PySem.W.subIn K (.ref C) (.ref c) else none) = some b
  rw [show (PySem.W.clsIn K c).isSome = true from h1, h2, h3]
  rfl
 unfold PySem.W.kitOne
 split
 ·rename_i e
  rcases h4 with rfl | h4
  ·rfl
  ·have e2 : C = c := Value.ref.inj (beq_iff_eq.mp e)
   rw [e2, beq_self_eq_true] at h4
   cases h4
 ·exact k
theorem kit_type {K : PySem.W.Frag} {C : Addr} {T : String} {b : Bool} (h1 : PySem.W.kitMeta T = true) (h3 : PySem.W.subIn K (.ref C) (.type T) = some b) : PySem.W.kitOne K (.ref C) (.type T) = some b := by
 unfold PySem.W.kitOne
 split
 ·rename_i e
  cases beq_iff_eq.mp e
 ·show (if PySem.W.kitMeta T = true then PySem.W.subIn K (.ref C) (.type T) else none) = some b
  rw [if_pos h1]
  exact h3
theorem exm_refs {K : PySem.W.Frag} {C c : Addr} {b : Bool} (h0 : PySem.W.subIn K (.ref c) (.type "BaseException") = some true) (h1 : PySem.W.isClsIn K c = true) (h2 : PySem.W.typeIn K (.ref c) = some (.type "type")) (h3 : PySem.W.subIn K (.ref C) (.ref c) = some b) : PySem.W.exmOne K (.ref C) (.ref c) = some b := by
 unfold PySem.W.exmOne
 rw [h0]
 show PySem.W.kitCls K (.ref C) (.ref c) = some b
 show (if ((PySem.W.clsIn K c).isSome && PySem.W.typeIn K (.ref c) == some (.type "type")) = true then PySem.W.subIn K (.ref C) (.ref c) else none) = some b
 rw [show (PySem.W.clsIn K c).isSome = true from h1, h2, h3]
 rfl
theorem own_in {K : PySem.W.Frag} {h : Heap} {mg : Str → Option Value} {x : Str} {C : Addr} {bmB : List Value} {newId : String} (X : K.In h) (hm : mg x = some (.ref C)) (q : PySem.W.excIn K C bmB newId = true) : OwnCls x C bmB newId mg h := by
 constructor
 ·exact hm
 ·unfold PySem.W.excIn at q
  split at q
  ·rename_i dd cd sl ho
   split at q
   ·rename_i C1 bm1 k0 k1 k2 k3 n1 k5 hm1 hs1
    simp only [Bool.and_eq_true, beq_iff_eq, Bool.not_eq_true'] at q
    obtain ⟨⟨⟨⟨⟨q1, q2⟩, q3⟩, q4⟩, q5⟩, q6⟩ := q
    subst q1 q2
    obtain ⟨nm, bs, mro, ns, qn, hd, sn, sub, ab, col, del⟩ := cd
    have hm2 : mro = .ref C1 :: bm1 := hm1
    have hd2 : del = false := q3
    have q5' : PySem.W.nsOkIn K ns = true := q5
    have q6' : PySem.W.nsIn K ns "__init__" = some none := q6
    subst hm2 hd2
    obtain ⟨ls⟩ := sl
    have hs2 : ls = [k0, k1, k2, k3, some (.builtin n1), k5] := hs1
    subst hs2
    exact ⟨bm1, ns, nm, qn, bs, hd, sn, sub, ab, col, dd, k0, k1, k2, k3, k5, _, X _ _ ho, .of_isNs (PySem.W.isNs_of_in X q5'), PySem.W.nsMap_none_of_in X q5' q6', PySem.W.tail_of_in X q4⟩
   ·cases q
  ·cases q
end L2
set_option maxHeartbeats 8000000
namespace Ci
open PySem L2
abbrev excBm : List Value := [.type "ValueError", .type "Exception", .type "BaseException", .type "object"]
structure ModK (K : PySem.W.Frag) (mg : Str → Option Value) (Γ : Pg) (W : Wd) : Prop where
 hK : W.K = K
 hm : W.mg = mg
 gs : ∀ q ∈ Γ.gs, ∃ u v, mg q.1 = some u ∧ RelV v u ∧ ∀ G, Rep W G q.2 v
 bs : ∀ g ∈ Γ.bs, mg g = none
 nov : Γ.cs.contains "ValueError" = false
 cls : ∀ c ∈ Γ.cs, ∃ C, mg c = some (.ref C)
 xc : ∀ d ∈ W.xs, ∀ D, mg d = some (.ref D) → XCls K D ∧ (∀ c ∈ Γ.cs, ∀ C, mg c = some (.ref C) → PySem.W.kitOne K (.ref D) (.ref C) = some (c == d || c == "FloorError")) ∧ PySem.W.kitOne K (.ref D) (.type "ValueError") = some true
 xs : ∀ c, Γ.rs.contains c = true → c ∈ W.xs
 rm : ∀ c, Γ.rs.contains c = true → ∃ C, mg c = some (.ref C) ∧ PySem.W.excIn K C excBm "ValueError.__new__" = true
 exm : Γ.cs.contains "FloorError" = true → ∀ c D, c ∈ W.xs → mg c = some (.ref D) → ∀ T, mg "FloorError" = some (.ref T) → PySem.W.exmOne K (.ref D) (.ref T) = some true
structure Stat (Γ : Pg) (n : Str) (d : Def) (st : Stmt) : Prop where
 sc : FnScope d.N (d.N.take d.np) (defScope st)
 np : d.np ≤ d.N.length
 bind : ∀ (kV doc pm : Value) (an : Option Addr) (cdv ct : Value) (us : List Value), us.length = (d.N.take d.np).length → bindArgs (PySem.W.fnOf n n (defArgs st) (defBody st) (defScope st) .none kV doc pm an cdv ct) ⟨us, []⟩ = pure ((d.N.take d.np).zip us)
 chk : chkSs Γ d.N (defScope st) d.body (defBody st) = true
theorem stM {Γ : Pg} {n : Str} {d : Def} {st : Stmt} (b : ∀ (kV doc pm : Value) (an : Option Addr) (cdv ct : Value) (us : List Value), us.length = (d.N.take d.np).length → bindArgs (PySem.W.fnOf n n (defArgs st) (defBody st) (defScope st) .none kV doc pm an cdv ct) ⟨us, []⟩ = pure ((d.N.take d.np).zip us))
 (a1 : (defScope st).kind = .function := by rfl) (a2 : (defScope st).isCoroutine = false := by rfl) (a3 : (defScope st).isGenerator = false := by rfl) (a4 : d.N.Nodup := by decide +kernel) (a5 : d.N.take (d.N.take d.np).length = d.N.take d.np := by rfl)
 (a6 : ∀ x ∈ d.N.take d.np, (defScope st).names.lookup x = some .local ∨ (defScope st).names.lookup x = some .cell := by decide +kernel) (a7 : ∀ y ∈ (defScope st).names, y.2 ≠ .free := by decide +kernel) (a8 : d.np ≤ d.N.length := by decide +kernel) (a9 : chkSs Γ d.N (defScope st) d.body (defBody st) = true := by decide +kernel) : Stat Γ n d st := ⟨⟨a1, a2, a3, a4, a5, a6, a7⟩, a8, b, a9⟩
abbrev Rws : Type := List (Str × Def × Stmt)
def EntK (K : PySem.W.Frag) (n : Str) (st : Stmt) : Prop := ∃ (f : Addr) (oc : Value) (od : Option Addr) (kV doc pm : Value) (an : Option Addr) (cdv ct : Value) (osl : Array (Option Value)),
 PySem.W.nsIn K mainGlobals n = some (some (.ref f)) ∧ K.lookup f = some ⟨oc, od, .func (PySem.W.fnOf n n (defArgs st) (defBody st) (defScope st) .none kV doc pm an cdv ct), osl⟩ ∧ PySem.W.codeIn K cdv n = true ∧ PySem.W.keepIn K (.ref f) = true
theorem entK {K : PySem.W.Frag} {n : Str} {st : Stmt} {f : Addr} {oc : Value} {od : Option Addr} {kV doc pm : Value} {an : Option Addr} {cdv ct : Value} {osl : Array (Option Value)} (a : PySem.W.nsIn K mainGlobals n = some (some (.ref f)))
 (l : K.lookup f = some ⟨oc, od, .func (PySem.W.fnOf n n (defArgs st) (defBody st) (defScope st) .none kV doc pm an cdv ct), osl⟩) (c : PySem.W.codeIn K cdv n = true) (k : PySem.W.keepIn K (.ref f) = true) : EntK K n st := ⟨f, oc, od, kV, doc, pm, an, cdv, ct, osl, a, l, c, k⟩
def spF (W : Wd) (F : Fns) (f : Str) (n : Nat) : Sp := fun vs H Q E => vs.length = n ∧ ∃ G as, Same G H ∧ RepL W G as vs ∧ (match F f as with
 | .ok p => ∀ v G' H', Grow G H G' H' → Rep W G' p v → Q v H'
 | .exc c => ∀ Cv ao H', XE W c G H Cv ao H' → E Cv ao H'
 | .bad => False)
structure FnIs (P : Program) (w : World) (K : PySem.W.Frag) (mg : Str → Option Value) (base : Heap) (W : Wd) (F : Fns) (k : Nat) (f : Str) : Prop where
 ex : ∃ fa fd ps, FnOk P w K mg base (CX1 P w) k fa fd ps (spF W F f ps.length) ∧ mg f = some (.ref fa) ∧ PySem.W.keepIn K (.ref fa) = true ∧ Binds K fd ps [] ∧ ∀ as, F f as ≠ .bad → as.length = ps.length
section
variable {P : Program} {w : World} {K : PySem.W.Frag} {mg : Str → Option Value} {base : Heap} {Γ : Pg} {W : Wd}
theorem cxS_of (M : ModK K mg Γ W) (KB : K.In base) {F : Fns} {k : Nat} {N ps : List Str} {qual : Str} {sc : Scope} (S : FnScope N ps sc) (hF : ∀ f, Γ.fs.contains f = true → FnIs P w K mg base W F k f) {f : Addr} {cd : Value} {A : Around} {outer : List Env} {s : Shared} {H : Hp} {E : XK} (hr : Room k (A.deeper (PyProof.Rows.envOfC qual sc s.heap.objs.size f cd))) :
 CxS Γ F W N sc k E (cxOf (CX1 P w) P w K mg base N qual sc f cd A outer s H E) where
 C := ⟨rfl, rfl, rfl, S.nd, M.hK, M.hm, M.gs, M.bs, hr, fun g hg => ⟨(hF g hg).ex⟩, M.nov, M.cls, M.xc⟩
 fn := fun _ => rfl
 own := PassesOwn.leaving
 pass := pass1
 kind := S.kind
 stk := rfl
 frame := rfl
 xs := M.xs
 rm := fun c hc => let ⟨C, h, _⟩ := M.rm c hc; ⟨C, h⟩
 rz := fun c z j np zp cp pos h1 h2 h3 => by
  obtain ⟨C, hC, hx⟩ := M.rm c h1
  have hg : Gl (cxOf (CX1 P w) P w K mg base N qual sc f cd A outer s H E) c := beq_iff_eq.mp h2
  refine L2.PS.imp (ps_raise hg (own_in KB hC hx) PySem.F.excBase_ValueError (pa_cons pe_str pa_nil) rfl rfl (okN_d h3).1) fun D σ H1 h => ⟨(show 1 ≤ sizeLine by decide), fun e he => h C e hC he⟩
 exm := M.exm
theorem sr_start {H G : Hp} {N : List Str} {as : List PV} {vs : List V} (sg : Same G H) (l : RepL W G as vs) (hn : as.length ≤ N.length) : SR W H (as.map .val ++ List.replicate (N.length - as.length) .no) (start N vs) G H := by
 have hl := l.length
 unfold L2.start
 refine ⟨by simp; omega, sg, Same.refl _, fun i s e => ?_, fun i j p q a e1 _ _ _ => ?_⟩
 ·by_cases hi : i < as.length
  ·rw [List.getElem?_append_left (by simpa using hi), List.getElem?_map] at e
   obtain ⟨p, hp, rfl⟩ := Option.map_eq_some_iff.mp e
   obtain ⟨v, hv, rv⟩ := l.getP hp
   exact ⟨some v, by rw [List.getElem?_append_left (by simpa using (show i < vs.length by omega)), List.getElem?_map, hv]; rfl, v, rfl, rv⟩
  ·rw [List.getElem?_append_right (by simpa using hi), List.getElem?_replicate] at e
   split at e
   ·rename_i h2
    cases e
    rw [List.length_map] at h2
    exact ⟨none, by rw [List.getElem?_append_right (by simp; omega), List.getElem?_replicate, if_pos (by rw [List.length_map]; omega)], trivial⟩
   ·cases e
 ·exfalso
  by_cases hi : i < as.length
  ·rw [List.getElem?_append_left (by simpa using hi), List.getElem?_map] at e1
   obtain ⟨p, hp, e⟩ := Option.map_eq_some_iff.mp e1
   cases e
  ·rw [List.getElem?_append_right (by simpa using hi), List.getElem?_replicate] at e1
   split at e1 <;> cases e1
theorem fn_ok (M : ModK K mg Γ W) (KB : K.In base) {F : Fns} {k : Nat} {n : Str} {d : Def} {st : Stmt} {fa : Addr} {fd : FuncData} (St : Stat Γ n d st) (Fu : Fun K n n st fa fd) (hF : ∀ f, Γ.fs.contains f = true → FnIs P w K mg base W F k f) :
 FnOk P w K mg base (CX1 P w) (k + 1) fa fd (d.N.take d.np) (spF W (fun _ as => runD F d as) n (d.N.take d.np).length) := by
 have hlen : (d.N.take d.np).length = d.np := by rw [List.length_take]; have := St.np; omega
 refine Fu.ok1 St.sc (fun vs H Q E h => h.1) fun cdv A outer s H vs Q E hr h => ?_
 obtain ⟨hl, G, as, sg, l, o⟩ := h
 refine ⟨tSs W F H E d.body, sndSs (cxS_of M KB St.sc hF hr) d.body _ St.chk, G, as.map .val ++ List.replicate (d.N.length - as.length) .no, ?_, ?_⟩
 ·refine sr_start sg l ?_
  have := l.length
  have := St.np
  omega
 ·have ha : as.length = d.np := by rw [← l.length, hl, hlen]
  dsimp only at o
  unfold runD at o
  rw [if_pos ha] at o
  cases r : exSs F d.body (as.map .val ++ List.replicate (d.N.length - as.length) .no) with
  | bad => rw [r] at o; exact o
  | exc c => rw [r] at o; exact o
  | ok fl =>
   rw [r] at o
   cases fl with
   | nx env => exact fun σ' G' H' sr g => o .non G' H' g .n
   | rt p => exact fun v G' H' rv g => o v G' H' g rv
   | bk env => exact o.elim
   | ct env => exact o.elim
def AllK (K : PySem.W.Frag) (Γ : Pg) : List (Str × Def × Stmt) → Prop
 | [] => True
 | (n, d, st) :: r => EntK K n st ∧ Stat { Γ with fs := r.map (·.1) } n d st ∧ AllK K Γ r
def tab (l : List (Str × Def × Stmt)) : List (Str × Def) := l.map fun q => (q.1, q.2.1)
theorem modK_fs (M : ModK K mg Γ W) (fs : List Str) : ModK K mg { Γ with fs := fs } W := ⟨M.hK, M.hm, M.gs, M.bs, M.nov, M.cls, M.xc, M.xs, M.rm, M.exm⟩
theorem FnIs.mono {F : Fns} {j k : Nat} {f : Str} (h : FnIs P w K mg base W F j f) (hk : j ≤ k) : FnIs P w K mg base W F k f := by
 obtain ⟨fa, fd, ps, h1, h2⟩ := h.ex
 exact ⟨fa, fd, ps, h1.mono hk, h2⟩
theorem FnIs.swap {F F' : Fns} {k : Nat} {f : Str} (h : FnIs P w K mg base W F k f) (e : ∀ as, F' f as = F f as) : FnIs P w K mg base W F' k f := by
 obtain ⟨fa, fd, ps, h1, h2, h3, h4, h5⟩ := h.ex
 refine ⟨fa, fd, ps, ?_, h2, h3, h4, fun as hn => h5 as (by rw [← e]; exact hn)⟩
 have : spF W F' f ps.length = spF W F f ps.length := by
  funext vs H Q E
  unfold spF
  simp only [e]
 rw [this]
 exact h1
theorem all_ok (M : ModK K mg Γ W) (KB : K.In base) (G : base.Ns mainGlobals mg) : ∀ (l : List (Str × Def × Stmt)), AllK K Γ l → ∀ f, (l.map (·.1)).contains f = true → FnIs P w K mg base W (den (tab l)) l.length f
 | [], _, f, hf => by simp at hf
 | (n, d, st) :: r, h, f, hf => by
  obtain ⟨he, hs, hr⟩ := h
  have ih := all_ok M KB G r hr
  by_cases hfn : (f == n) = true
  ·have e := beq_iff_eq.mp hfn
   subst e
   obtain ⟨fa, oc, od, kV, doc, pm, an, cdv, ct, osl, e1, e2, e3, e4⟩ := he
   have Fu := fun_mk (st := st) e2 e3 e4
   have ok := fn_ok (P := P) (w := w) (modK_fs M (r.map (·.1))) KB (k := r.length) hs Fu fun g hg => ih g hg
   refine ⟨fa, _, d.N.take d.np, ?_, PySem.W.mg_of KB G e1, e4, Fu.binds hs.bind, fun as hn => ?_⟩
   ·have : spF W (den (tab ((f, d, st) :: r))) f (d.N.take d.np).length = spF W (fun _ as => runD (den (tab r)) d as) f (d.N.take d.np).length := by
     funext vs H Q E
     unfold spF
     simp only [tab, List.map_cons, den, beq_self_eq_true, if_true]
    rw [this]
    exact ok
   ·have hd : den (tab ((f, d, st) :: r)) f as = runD (den (tab r)) d as := by
     simp only [tab, List.map_cons, den, beq_self_eq_true, if_true]
    rw [hd] at hn
    unfold runD at hn
    by_cases ha : as.length = d.np
    ·rw [ha, List.length_take]
     have := hs.np
     omega
    ·rw [if_neg ha] at hn
     exact absurd rfl hn
  ·have hf2 : (r.map (·.1)).contains f = true := by
    rw [List.map_cons, List.contains_cons, Bool.or_eq_true] at hf
    rcases hf with z | z
    ·exact absurd z hfn
    ·exact z
   refine ((ih f hf2).mono (Nat.le_succ _)).swap fun as => ?_
   simp only [tab, List.map_cons, den]
   rw [if_neg hfn]
end
end Ci
set_option maxHeartbeats 8000000
namespace L2
open PySem PySem.Spec PyProof.Rows
theorem law_callL {P : Program} {w : World} {K : PySem.W.Frag} {mg mb : Str → Option Value} {CX : CXT} {k : Nat} {fa a : Addr} {fd : FuncData} {x : Str} {sp : Sp} {s₁ : Shared} {vs : List Value} {ns : List Int}
 (KX : K.In s₁.heap) (hns : s₁.heap.Ns mainGlobals mg) (hb : s₁.heap.Ns builtinsNs mb) (hbb : ∀ x : Str, x ≠ "__name__" → mb x = bootBuiltins x) (hlim : s₁.heap.NoLimit) (hg : s₁.gens = #[])
 (ha : s₁.heap.get? a = some { cls := .type "list", data := .seq vs.toArray }) (hi : IntsAre vs ns) (hl : ns.length ≤ sizeLine) (hr : Room k callerA)
 (F : ∀ base : Heap, K.In base → base.Ns mainGlobals mg → FnOk P w K mg base CX k fa fd [x] sp) (hbind : ∀ (s : Shared) (u : Value), BindsTo s fd ⟨[u], []⟩ [(x, u)])
 (hsp : ∀ H : Hp, Only H → Ci.LsR K H a (ns.map V.int) → sp [.ref a] H (fun v _ => v = .bl true) fun _ _ _ => False)
 (hCX : ∀ H e s', CX [] H s₁ (fun _ _ _ => False) e s' → False) :
 codeAny (model P w) callerA (.call (.ref fa) ⟨[.ref a], []⟩) (fun r s' => r = .ok (.ret (.bool true)) ∧ OldK s₁.heap s'.heap ∧ s'.os = s₁.os ∧ AllBare s'.gens) s₁ := by
 have rv := vals_ints hi
 have lenV := hi.length
 have core : ∀ H : Hp, Only H → Ci.LsR K H a (ns.map V.int) → HOk P w H s₁.heap → (∀ b, H b ≠ none → b = a) → (H a ≠ none → K.lookup a = none) →
  codeAny (model P w) callerA (.call (.ref fa) ⟨[.ref a], []⟩) (fun r s' => r = .ok (.ret (.bool true)) ∧ OldK s₁.heap s'.heap ∧ s'.os = s₁.os ∧ AllBare s'.gens) s₁ := by
  intro H hO hS hok hA hK
  have base_of : ∀ {b : Addr} {o : Obj}, s₁.heap.get? b = some o → H b = none → (hidT s₁.heap H).get? b = some o := fun e n => hidT_get e n
  have noA : ∀ {b : Addr} {o : Obj} {es : Array DictEntry} {ep : Nat}, s₁.heap.get? b = some o → o.data = .dict es ep → H b = none := fun {b o es ep} e d => by
   cases q : H b with
   | none => rfl
   | some u =>
    have e' : b = a := hA b (by rw [q]; simp)
    subst e'
    rw [ha] at e; cases e
    have d' : Data.seq vs.toArray _ = Data.dict es ep := d
    cases d'
  have nsK : ∀ {b : Addr} {m : Str → Option Value}, s₁.heap.Ns b m → (hidT s₁.heap H).Ns b m := fun {b m} ⟨o, es, ep, e, d, r⟩ => ⟨o, es, ep, base_of e (noA e d), d, r⟩
  have hKb : K.In (hidT s₁.heap H) := fun b o e => base_of (KX b o e) (by
   cases q : H b with
   | none => rfl
   | some u =>
    have e' : b = a := hA b (by rw [q]; simp)
    subst e'
    rw [hK (by rw [q]; simp)] at e; cases e)
  have hM : Mod K mg (hidT s₁.heap H) := ⟨hKb, nsK hns, ⟨mb, nsK hb, hbb⟩, let ⟨mc, h1, h2⟩ := hlim; ⟨mc, nsK h1, h2⟩⟩
  have e0 : Env0 P w K mg (hidT s₁.heap H) callerA [] s₁ H := ⟨rfl, hM, fun b o e => of_hidT e, Nat.le_of_eq (hidT_size _ _), trivial, fun b hb => absurd (show b ∈ ([] : List Addr) from hb) (by simp), hok, .of_eq hg⟩
  refine codeAny_mono ((F _ hKb (nsK hns)).run callerA [] s₁ H ⟨[.ref a], []⟩ [.ref a] [.ref a] _ _ hr e0 (hbind s₁ (.ref a)) (.cons rfl .nil) (hsp H hO hS)) fun r s' h => ?_
  cases r with
  | error e => exact (hCX H e s' h).elim
  | ok fl =>
   cases fl with
   | next => exact False.elim h
   | brk => exact False.elim h
   | cont => exact False.elim h
   | ret u =>
    obtain ⟨v, H', os, bare, un, hok', r', q⟩ := h
    have q' : v = .bl true := q
    subst q'
    obtain rfl : u = Value.bool true := r'
    refine ⟨rfl, OldK.of_keep fun b o e => ?_, os, bare⟩
    cases q : H b with
    | none => exact un.keep b o e q (by intro z; exact absurd (show b ∈ ([] : List Addr) from z) (by simp)) (by simp)
    | some u =>
     rcases hO b with z | ⟨ob, xs, z⟩
     ·rw [q] at z; cases z
     ·have z2 := un.frzs b ob _ z
      obtain ⟨e1, _⟩ := hok b _ z
      obtain ⟨e2, _⟩ := hok' b _ z2
      rw [e] at e1; cases e1
      exact e2
 cases hk : K.lookup a with
 | some o =>
  have e := KX a o hk
  rw [ha] at e
  cases e
  refine core (fun _ => none) (fun _ => .inl rfl) (.inr ⟨vs.toArray, _, hk, by rw [List.size_toArray, lenV]; exact hl, by simpa using rv⟩) (fun b u z => by have z' : (none : Option HO) = some u := z; cases z') (fun b z => absurd rfl z) fun z => absurd rfl z
 | none =>
  refine core (fun b => if b = a then some (.frz { cls := .type "list", data := .seq vs.toArray } (.lst (ns.map V.int))) else none) (fun b => ?_) (.inl (.inr ⟨{ cls := .type "list", data := .seq vs.toArray }, if_pos rfl⟩)) (fun b u z => ?_) (fun b z => ?_) fun _ => hk
  ·by_cases hb : b = a
   ·exact .inr ⟨_, _, if_pos hb⟩
   ·exact .inl (if_neg hb)
  ·by_cases hb : b = a
   ·have z' := (if_pos hb).symm.trans z
    cases z'
    subst hb
    exact ⟨ha, by rw [List.length_map]; exact hl, vs, _, rv, ha⟩
   ·have z' := (if_neg hb).symm.trans z
    cases z'
  ·by_cases hb : b = a
   ·exact hb
   ·exact absurd (if_neg hb) z
theorem walk_L {l : PySem.W.OpenLaw} {n k : Nat} {q : Program} {loose : List Str} {XP : (Str → Option Value) → Heap → Prop} {YP : World → Heap → Prop} {d : DefRec} {K : Params → PySem.W.Frag} {CX : World → CXT} {sp : World → Sp} {x : Str}
 (hn : l.most = some n) (hn2 : n ≤ sizeLine) (hdf : d.params.defaults = []) (hr : Room k callerA)
 (hY : ∀ (w : World) (h : Heap), YP w h → (K w.params).In h)
 (F : ∀ (w : World) (mg : Str → Option Value) (fa : Addr) (h : Heap), (K w.params).In h → h.Ns mainGlobals mg → mg d.name = some (.ref fa) →
  ∃ fd : FuncData, (∀ (s : Shared) (u : Value), BindsTo s fd ⟨[u], []⟩ [(x, u)]) ∧
   ∀ base : Heap, (K w.params).In base → base.Ns mainGlobals mg → FnOk l.prog w (K w.params) mg base (CX w) k fa fd [x] (sp w))
 (hsp : ∀ (w : World) (H : Hp) (a : Addr) (ns : List Int), ns.length ≤ n → Only H → Ci.LsR (K w.params) H a (ns.map V.int) → sp w [.ref a] H (fun v _ => v = .bl true) fun _ _ _ => False)
 (hCX : ∀ (w : World) (H : Hp) (s : Shared) (e : Value) (s' : Shared), CX w [] H s (fun _ _ _ => False) e s' → False) :
 PySem.W.WalkO q loose XP YP l.row.toRowW d [] (fun f vs => PySem.call f vs) := by
 refine Att.attach_call hn hdf fun w s₀ s₁ mg mb fa o pm cd doc a vs ns G Y ho hd hcd hmg hobj hints hlen hg => ?_
 have KX := hY w _ Y
 obtain ⟨fd, hb, hF⟩ := F w mg fa _ KX G.T.g hmg
 exact law_callL KX G.T.g G.T.b G.T.builtins G.T.nolimit hg hobj hints (Nat.le_trans hlen hn2) hr hF hb (fun H hO hS => hsp w H a ns hlen hO hS) fun H e s' => hCX w H s₁ e s'
end L2
namespace Ci
open PySem L2
theorem script_rep {W : Wd} {G : Hp} : ∀ (ns : List Int), RepL W G (ns.map PV.int) (ns.map V.int)
 | [] => .nil
 | n :: ns => .cons .i (script_rep ns)
def spLaw (K : PySem.W.Frag) : Sp := fun vs H Q _ => ∃ (a : Addr) (ns : List Int), vs = [.ref a] ∧ LsR K H a (ns.map V.int) ∧ ns.length ≤ 63 ∧ ∀ H', Q (.bl true) H'
theorem walk {l : PySem.W.OpenLaw} {q : Program} {loose : List Str} {XP : (Str → Option Value) → Heap → Prop} {YP : World → Heap → Prop} {d : DefRec} {K : Params → PySem.W.Frag} (rest : List (Str × Def × Stmt)) (Γ : Pg) (x : Str) (dl : Def) (xs : List Str) (st : Stmt)
 (hx : dl.N.take dl.np = [x]) (hdn : d.name = "law") (hn : l.most = some 63) (hdf : d.params.defaults = []) (hr : Room (rest.length + 1) callerA) (hY : ∀ (w : World) (h : Heap), YP w h → (K w.params).In h)
 (hM : ∀ (w : World) (mg : Str → Option Value) (h : Heap), (K w.params).In h → h.Ns mainGlobals mg → ModK (K w.params) mg Γ ⟨K w.params, mg, xs⟩)
 (hE : ∀ w : World, EntK (K w.params) "law" st) (hS : Stat { Γ with fs := rest.map (·.1) } "law" dl st)
 (hA : ∀ w : World, AllK (K w.params) Γ rest)
 (hlaw : ∀ ns : List Int, ns.length ≤ 63 → runD (den (tab rest)) dl [.lst (ns.map .int)] = .ok (.bl true)) :
 PySem.W.WalkO q loose XP YP l.row.toRowW d [] (fun f vs => PySem.call f vs) := by
 refine L2.walk_L (n := 63) (k := rest.length + 1) (x := x) (CX := fun w => CX1 l.prog w) (sp := fun w => spLaw (K w.params)) hn (by decide) hdf hr hY ?_ ?_ ?_
 ·intro w mg fa h KX G hmg
  rw [hdn] at hmg
  obtain ⟨f, oc, od, kV, doc, pm, an, cdv, ct, osl, e1, e2, e3, e4⟩ := hE w
  have hf : fa = f := by
   have z := hmg.symm.trans (PySem.W.mg_of KX G e1)
   cases z
   rfl
  subst hf
  refine ⟨PySem.W.fnOf "law" "law" (defArgs st) (defBody st) (defScope st) .none kV doc pm an cdv ct, fun s u => ?_, fun base KB GB => ?_⟩
  ·have hb := hS.bind kV doc pm an cdv ct [u]
   rw [hx] at hb
   exact .of_eq (hb rfl)
  ·have M := hM w mg base KB GB
   have ok := fn_ok (P := l.prog) (w := w) (modK_fs M (rest.map (·.1))) KB (k := rest.length) hS (fun_mk (st := st) e2 e3 e4) fun g hg => all_ok M KB GB rest (hA w) g hg
   rw [hx] at ok
   refine ok.imp fun vs H Q E h => ?_
   obtain ⟨a, ns, rfl, hl, hlen, q⟩ := h
   refine ⟨rfl, H, [.lst (ns.map .int)], Same.refl _, .cons (.l hl (script_rep ns)) .nil, ?_⟩
   dsimp only
   rw [hlaw ns hlen]
   intro v G' H' _ rv
   simp only [Rep] at rv
   subst rv
   exact q H'
 ·intro w H a ns hlen hO hS'
  exact ⟨a, ns, rfl, hS', hlen, fun _ => rfl⟩
 ·intro w H s e s' h
  obtain ⟨a, C, t, vs, H', B, rfl, F⟩ := h
  exact F.ends
end Ci
namespace Hd
open PySem PySem.W PySem.Calls
noncomputable def runT (st : SharedT → Thread → Option (SharedT × Thread)) (ok : Thread → Bool) (n : Nat) : SharedT → Thread → Option SharedT :=
 @Nat.rec (fun _ => SharedT → Thread → Option SharedT) (fun _ _ => none) (fun _ ih s t => match through t with
  | true => some s
  | false => match ok t with
   | false => none
   | true => match st s t with
    | some (s', t') => ih s' t'
    | none => none) n
theorem runT_spec {tb : String → Option Builtin} {p : Program} {w : World} {n₀ : Nat} {ann : Option Value} : ∀ {n : Nat} {s s' : SharedT} {t : Thread}, runT (stepT (denote tb) p w) (stepOk n₀ ann) n s t = some s' → topRun tb p w n₀ ann n s.abs t = some s'.abs
 | 0, _, _, _, h => by cases h
 | n + 1, s, s', t, h => by
  have h : (match through t with
   | true => some s
   | false => match stepOk n₀ ann t with
    | false => none
    | true => match stepT (denote tb) p w s t with
     | some (s', t') => runT (stepT (denote tb) p w) (stepOk n₀ ann) n s' t'
     | none => none) = some s' := h
  unfold topRun
  cases ht : through t with
  | true => rw [ht] at h; cases h; rfl
  | false =>
   rw [ht] at h
   cases hk : stepOk n₀ ann t with
   | false => rw [hk] at h; cases h
   | true =>
    rw [hk] at h
    cases hs : stepT (denote tb) p w s t with
    | none => rw [hs] at h; cases h
    | some r => obtain ⟨s₂, t₂⟩ := r; rw [hs] at h; rw [stepT_spec hs]; exact runT_spec h
def treeOf (l : List Obj) : BT := (l.foldl (fun (T, i) o => (BT.ins T i o, i + 1)) (BT.nil, 0)).1
theorem left_of {p q : Program} {loose : List Str} {Xt : Shared → Bool} {α : Type} {Yf : Shared → α} {Ya : World → α} {N : Nat} {g0 : Bool} {T₀ : Params → BT} {life : Life} {m₀ : Nat} {ann : Option Value} {M : Nat}
 (e : opening p = plainProg p.main.scope.names) (hN : Nat.ble 600 N = true) (f : ∀ s, fenceModules? p s = some s)
 (e0 : ∀ P : Params, absHeap (T₀ P) m₀ life = boot_heap P)
 (size : ∀ w : World, ((boot_heap w.params).isNs mainGlobals, (boot_heap w.params).nsMap mainGlobals "__annotations__") = (true, ann))
 (le : Nat.ble M N = true)
 (run : ∀ (w : World) (os : OsState), (runT (stepT (denote treeTable) p w) (stepOk m₀ ann) M ⟨T₀ w.params, m₀, life, Array.mk [], boot_drawn, boot_toks, os⟩ (topStub p)).map (fun s =>
  ((staticsOk (importedModules p.main.body) (boot_heap w.params) s.abs.heap && namesBound p s.abs.heap && gensDone s.abs && laidKept (boot_heap w.params) s.abs.heap), openSeen q loose (importedModules p.main.body) Xt g0 s.abs, Yf s.abs))
  = some (true, openGood q loose, Ya w)) : LeftO p q loose Xt Yf Ya N g0 := fun w => by
 obtain ⟨⟨h, gs, d, k, os⟩, e1, e'⟩ := Option.map_eq_some_iff.mp (boot_open e hN f w)
 obtain ⟨rfl, rfl, rfl, rfl⟩ : h = boot_heap w.params ∧ gs = Array.mk [] ∧ d = boot_drawn ∧ k = boot_toks := by simpa using e'
 obtain ⟨z1, z3⟩ : _ ∧ _ := by simpa only [Prod.mk.injEq] using size w
 obtain ⟨s, r, l⟩ := Option.map_eq_some_iff.mp (run w os)
 obtain ⟨l1, l2, l3⟩ : _ ∧ _ ∧ _ := by simpa only [Prod.mk.injEq] using l
 have r := runT_spec r
 have r := topRun_mono (N - M) _ _ _ _ r
 rw [show M + (N - M) = N by have := Nat.le_of_ble_eq_true le; omega] at r
 have hs : (boot_heap w.params).objs.size = m₀ := by rw [← e0 w.params]; exact absHeap_size _ _ _
 have r : topRun treeTable p w m₀ ann N ⟨boot_heap w.params, Array.mk [], boot_drawn, boot_toks, os⟩ (topStub p) = some s.abs := by
  have : (⟨T₀ w.params, m₀, life, Array.mk [], boot_drawn, boot_toks, os⟩ : SharedT).abs = ⟨boot_heap w.params, Array.mk [], boot_drawn, boot_toks, os⟩ := by
   show Shared.mk _ _ _ _ _ = _
   rw [show absHeap (T₀ w.params) m₀ life = boot_heap w.params from e0 w.params]
  rw [← this]; exact r
 have t : topFrom treeTable p w N ⟨boot_heap w.params, Array.mk [], boot_drawn, boot_toks, os⟩ = some s.abs := by
  unfold topFrom
  dsimp only
  rw [z1, z3, hs, r]
  show (match staticsOk (importedModules p.main.body) (boot_heap w.params) s.abs.heap && namesBound p s.abs.heap && gensDone s.abs && laidKept (boot_heap w.params) s.abs.heap with | true => _ | false => _) = _
  rw [l1]
 unfold openEnds
 rw [e1]
 show (topFrom treeTable p w N _).map _ = _
 rw [t]
 exact congrArg some (Prod.ext l2 l3)
end Hd
namespace Hd
open PySem PySem.W
theorem boot0 : ∀ P : Params, absHeap (treeOf (boot_heap P).objs.toList) 11 {} = boot_heap P := fun P => by kernel_rfl
theorem boot1 : ∀ w : World, ((boot_heap w.params).isNs mainGlobals, (boot_heap w.params).nsMap mainGlobals "__annotations__") = (true, some (.ref 6)) := fun w => by kernel_rfl
abbrev de (P : Params) (x : Str) (t : Tok) (v : Value) : DictEntry := { hash := PyData.keyHash P x, key := .str x t, val := v }
theorem holds {l : OpenLaw} {keep : List Nat} {K : Params → Frag} {as : List Addr} {d : DefRec} {N : Nat} (said : l.wellSaid = true)
 (ka : ∀ P, as = (K P).map (·.1))
 (left : LeftO l.row.prog (view l.row.prog keep) [] (fun s => xlAt (view l.row.prog keep) [] s && recOk l.row.toRowW.records s) (kHook K as ka).obs (kHook K as ka).val N)
 (hdef : defOf (view l.row.prog keep) l.row.name = some (d, [])) (hp : l.row.prog.theDef l.row.name = some (d.params, d.body, d.scope)) (hk : kwWritten? d.params.kwonlyargs d.params.kw_defaults = some [])
 (ok : (chainsOk (view l.row.prog keep) && opensWell l.row.prog && (frees l.row.toRowW && l.row.within.isEmpty)) = true) (hb : l.row.prog.bare) (hw : l.row.toRowW.promised)
 (call : WalkO (view l.row.prog keep) [] (XL (view l.row.prog keep) []) (kHook K as ka).says l.row.toRowW d [] fun f vs => PySem.call f vs) : l.Holds :=
 holds_law said fun k1 => holds_open (N := N) left (Hook.of (kHook K as ka)) (Hook.keeps (kHook K as ka)) (fun s e => xl_of s (Bool.and_eq_true_iff.mp e).1) XL.keeps hdef hp hk (fun s e => recFacts_of (Bool.and_eq_true_iff.mp e).2) (by cases h : l.row.writes <;> rfl) k1 ok hb hw call
theorem ar1 {P : List Value → Prop} (h : ∀ a0, P [a0]) : ∀ us : List Value, us.length = 1 → P us
 | [a0], _ => h a0
theorem ar2 {P : List Value → Prop} (h : ∀ a0 a1, P [a0, a1]) : ∀ us : List Value, us.length = 2 → P us
 | [a0, a1], _ => h a0 a1
theorem ar3 {P : List Value → Prop} (h : ∀ a0 a1 a2, P [a0, a1, a2]) : ∀ us : List Value, us.length = 3 → P us
 | [a0, a1, a2], _ => h a0 a1 a2
theorem ar4 {P : List Value → Prop} (h : ∀ a0 a1 a2 a3, P [a0, a1, a2, a3]) : ∀ us : List Value, us.length = 4 → P us
 | [a0, a1, a2, a3], _ => h a0 a1 a2 a3
theorem ar5 {P : List Value → Prop} (h : ∀ a0 a1 a2 a3 a4, P [a0, a1, a2, a3, a4]) : ∀ us : List Value, us.length = 5 → P us
 | [a0, a1, a2, a3, a4], _ => h a0 a1 a2 a3 a4
end Hd
set_option maxHeartbeats 4000000
namespace K71
open PySem L2 Ci
def d__law_cell : Def := ⟨["_law_script", "_law_k"], 2, (.cons (.ite (.cmp .lt (.var 1) (.blt .len (.cons (.var 0) .nil)))
 (.cons (.ret (.sub (.var 0) (.var 1)))
 .nil)
 .nil)
 (.cons (.ite (.cmp .eq (.var 0) (.lst .nil))
  (.cons (.ret (.cst (.int 0)))
  .nil)
  .nil)
 (.cons (.ret (.bin .add (.bin .mul (.sub (.var 0) (.bin .mod (.var 1) (.blt .len (.cons (.var 0) .nil)))) (.cst (.int 31))) (.var 1)))
 .nil)))⟩
def d__law_pick : Def := ⟨["_law_script", "_law_k", "_law_many", "_law_drawn"], 3, (.cons (.set 3 (.bin .mod (.bin .mul (.bin .add (.call "_law_cell" (.cons (.var 0) (.cons (.var 1) .nil))) (.bin .mul (.cst (.int 6151)) (.bin .add (.var 1) (.cst (.int 1))))) (.cst (.int 40692))) (.cst (.int 2147483399))))
 (.cons (.ret (.bin .mod (.bin .mod (.bin .add (.bin .mul (.var 3) (.var 3)) (.bin .fdiv (.var 3) (.cst (.int 31)))) (.cst (.int 2147483629))) (.var 2)))
 .nil))⟩
def d__law_floor : Def := ⟨["_law_script", "_law_at", "_law_most", "_law_rows", "_law_columns", "_law_shuts", "_law_top", "_law_made", "_law_row", "_law_signs", "_law_column", "_law_drawn"], 3, (.cons (.set 3 (.bin .add (.cst (.int 1)) (.call "_law_pick" (.cons (.var 0) (.cons (.var 1) (.cons (.var 2) .nil))))))
 (.cons (.set 4 (.bin .add (.cst (.int 1)) (.call "_law_pick" (.cons (.var 0) (.cons (.bin .add (.var 1) (.cst (.int 1))) (.cons (.var 2) .nil))))))
 (.cons (.set 5 (.sub (.lst (.cons (.cst (.int 0)) (.cons (.cst (.int 2)) (.cons (.cst (.int 4)) (.cons (.cst (.int 6)) .nil))))) (.call "_law_pick" (.cons (.var 0) (.cons (.bin .add (.var 1) (.cst (.int 2))) (.cons (.cst (.int 4)) .nil))))))
 (.cons (.set 6 (.sub (.lst (.cons (.cst (.int 1)) (.cons (.cst (.int 2)) (.cons (.cst (.int 3)) (.cons (.cst (.int 10)) .nil))))) (.call "_law_pick" (.cons (.var 0) (.cons (.bin .add (.var 1) (.cst (.int 3))) (.cons (.cst (.int 4)) .nil))))))
 (.cons (.own 7 (.lst .nil))
 (.cons (.for_ (.one 8) (.rng (.var 3))
  (.cons (.set 9 (.cst (.str "")))
  (.cons (.for_ (.one 10) (.rng (.var 4))
   (.cons (.set 11 (.call "_law_pick" (.cons (.var 0) (.cons (.bin .add (.bin .add (.bin .add (.var 1) (.cst (.int 4))) (.bin .mul (.var 2) (.var 8))) (.var 10)) (.cons (.bin .mul (.cst (.int 12)) (.var 6)) .nil)))))
   (.cons (.set 9 (.bin .add (.var 9) (.ite (.cmp .lt (.bin .mod (.var 11) (.cst (.int 12))) (.var 5)) (.cst (.str "#")) (.blt .str (.cons (.bin .fdiv (.var 11) (.cst (.int 12))) .nil)))))
   .nil)))
  (.cons (.app 7 (.var 9))
  .nil))))
 (.cons (.ret (.blt .tuple (.cons (.tmp 7) .nil)))
 .nil)))))))⟩
def d_is_whole : Def := ⟨["thing"], 1, (.cons (.ret (.and (.ty .int (.var 0)) (.not (.ty .bool (.var 0)))))
 .nil)⟩
def d_is_spot : Def := ⟨["thing"], 1, (.cons (.ret (.and (.ty .tuple (.var 0)) (.and (.cmp .eq (.blt .len (.cons (.var 0) .nil)) (.cst (.int 2))) (.and (.call "is_whole" (.cons (.sub (.var 0) (.cst (.int 0))) .nil)) (.call "is_whole" (.cons (.sub (.var 0) (.cst (.int 1))) .nil))))))
 .nil)⟩
def d_is_on_floor : Def := ⟨["floor", "spot"], 2, (.cons (.ret (.and (.ch .le .lt (.cst (.int 0)) (.sub (.var 1) (.cst (.int 0))) (.blt .len (.cons (.var 0) .nil))) (.ch .le .lt (.cst (.int 0)) (.sub (.var 1) (.cst (.int 1))) (.blt .len (.cons (.sub (.var 0) (.sub (.var 1) (.cst (.int 0)))) .nil)))))
 .nil)⟩
def d_is_open : Def := ⟨["floor", "thing"], 2, (.cons (.ret (.and (.call "is_spot" (.cons (.var 1) .nil)) (.and (.call "is_on_floor" (.cons (.var 0) (.cons (.var 1) .nil))) (.cmp .ne (.sub (.sub (.var 0) (.sub (.var 1) (.cst (.int 0)))) (.sub (.var 1) (.cst (.int 1)))) (.glob "WALL" (.str "#"))))))
 .nil)⟩
def d_need_open : Def := ⟨["floor", "spot"], 2, (.cons (.ite (.not (.call "is_open" (.cons (.var 0) (.cons (.var 1) .nil))))
 (.cons (.raise "NoSpot" "the spot is not on the floor or a wall")
 .nil)
 .nil)
 .nil)⟩
def d__law_spots : Def := ⟨["_law_floor_here", "_law_made", "_law_row", "_law_signs"], 1, (.cons (.own 1 (.lst .nil))
 (.cons (.for_ (.two 2 3) (.enum (.var 0))
  (.cons (.extd 1 (.compIf 2 [2] (.two 0 1) (.enum (.var 3)) (.cmp .ne (.var 1) (.cst (.str "#"))) (.tup (.cons (.var 2) (.cons (.var 0) .nil)))))
  .nil))
 (.cons (.frz 1)
 (.cons (.ret (.var 1))
 .nil))))⟩
theorem bok {α β : Type} {a : α} {f : α → Res β} : (Res.ok a).bind f = f a := id rfl
theorem wok {α : Type} {a : α} : (Res.ok a).well = .ok a := id rfl
theorem rof {α : Type} {a : α} : Res.of (some a) = .ok a := id rfl
theorem sqn {env : Sl} {k : Sl → Res Fl} : (Fl.nx env).seq k = k env := id rfl
theorem sqr {p : PV} {k : Sl → Res Fl} : (Fl.rt p).seq k = .ok (.rt p) := id rfl
theorem sqb {env : Sl} {k : Sl → Res Fl} : (Fl.bk env).seq k = .ok (.bk env) := id rfl
theorem sv {p : PV} : slotV (some (.val p)) = .ok p := id rfl
theorem stv {p : PV} : slotT (some (.val p)) = .ok p := id rfl
theorem sto {p : PV} : slotT (some (.own p)) = .ok p := id rfl
theorem asb {α : Type} {b : Bool} {f : Bool → Res α} : asB (.bl b) f = f b := id rfl
theorem bAddI {i j : Int} : binOp .add (.int i) (.int j) = .ok (.int (i + j)) := id rfl
theorem bAddS {i j : Str} : binOp .add (.str i) (.str j) = if i.length + j.length ≤ LIM then .ok (.str (i ++ j)) else .bad := id rfl
theorem bAddL {i j : List PV} : binOp .add (.lst i) (.lst j) = if i.length + j.length ≤ LIM then .ok (.lst (i ++ j)) else .bad := id rfl
theorem bSub {i j : Int} : binOp .sub (.int i) (.int j) = .ok (.int (i - j)) := id rfl
theorem bMul {i j : Int} : binOp .mul (.int i) (.int j) = if small64 i || small64 j then .ok (.int (i * j)) else .bad := id rfl
theorem bMod {i j : Int} : binOp .mod (.int i) (.int j) = if 0 < j then .ok (.int (i % j)) else .bad := id rfl
theorem bDiv {i j : Int} : binOp .fdiv (.int i) (.int j) = if 0 < j ∧ j < 1073741824 then .ok (.int (i / j)) else .bad := id rfl
theorem cEq : cmpOp .eq = opEq := id rfl
theorem cNe : cmpOp .ne = opNe := id rfl
theorem cLt : cmpOp .lt = opLt := id rfl
theorem cLe : cmpOp .le = opLe := id rfl
theorem cGe : cmpOp .ge = opGe := id rfl
theorem cIn : cmpOp .in_ = opIn := id rfl
theorem cNin : cmpOp .nin = opNin := id rfl
theorem oLt {i j : Int} : opLt (.int i) (.int j) = .ok (.bl (decide (i < j))) := id rfl
theorem oLe {i j : Int} : opLe (.int i) (.int j) = .ok (.bl (decide (i ≤ j))) := id rfl
theorem oGe {i j : Int} : opGe (.int i) (.int j) = .ok (.bl (decide (j ≤ i))) := id rfl
theorem lL {xs : List PV} : bltOp .len [.lst xs] = .ok (.int xs.length) := id rfl
theorem lT {xs : List PV} : bltOp .len [.tup xs] = .ok (.int xs.length) := id rfl
theorem lS {z : Str} : bltOp .len [.str z] = if z.length ≤ LIM then .ok (.int z.length) else .bad := id rfl
theorem tL {xs : List PV} : bltOp .tuple [.lst xs] = .ok (.tup xs) := id rfl
theorem aL {xs : List PV} : bltOp .all [.lst xs] = (Res.of (boolsOf xs)).bind fun bs => .ok (.bl (bs.all id)) := id rfl
theorem tgp {i : Nat} {p : PV} {env : Sl} : (Tg.one i).put p env = .ok (env.set i (.val p)) := id rfl
theorem tg2 {i j : Nat} {a b : PV} {env : Sl} : (Tg.two i j).put (.tup [a, b]) env = .ok ((env.set i (.val a)).set j (.val b)) := id rfl
theorem fxo {p : PV} : frzS (.own p) = .val p := id rfl
theorem jA {α : Type} {a : α} {as : List α} : (a :: as).length = as.length + 1 := id rfl
theorem jB {α : Type} : ([] : List α).length = 0 := id rfl
theorem jC {α β : Type} {f : α → β} {a : α} {l : List α} : (a :: l).map f = f a :: l.map f := id rfl
theorem jD {α β : Type} {f : α → β} : ([] : List α).map f = [] := id rfl
theorem jE {α : Type} {a : α} {as bs : List α} : a :: as ++ bs = a :: (as ++ bs) := id rfl
theorem jF {α : Type} {as : List α} : [] ++ as = as := id rfl
theorem jG {α : Type} {a : α} {l : List α} : (a :: l)[0]? = some a := id rfl
theorem jH {α : Type} {a : α} {l : List α} {i : Nat} : (a :: l)[i + 1]? = l[i]? := id rfl
theorem jI {α : Type} {a b : α} {l : List α} : (a :: l).set 0 b = b :: l := id rfl
theorem jJ {α : Type} {a b : α} {l : List α} {i : Nat} : (a :: l).set (i + 1) b = a :: l.set i b := id rfl
theorem jK {α : Type} {a d : α} {l : List α} : (a :: l).getD 0 d = a := id rfl
theorem jL {α : Type} {a d : α} {l : List α} {i : Nat} : (a :: l).getD (i + 1) d = l.getD i d := id rfl
theorem jM {n : Nat} : 0 + n = n := Nat.zero_add _
theorem jN : (!true) = false := id rfl
theorem jO : (!false) = true := id rfl
theorem jP : (false = true) = False := Bool.false_eq_true
def J := And.intro @bok (And.intro @wok (And.intro @rof (And.intro @sqn (And.intro @sqr (And.intro @sqb (And.intro @sv (And.intro @stv (And.intro @sto (And.intro @asb (And.intro @bAddI (And.intro @bAddS (And.intro @bAddL (And.intro @bSub (And.intro @bMul (And.intro @bMod (And.intro @bDiv (And.intro @cEq (And.intro @cNe (And.intro @cLt (And.intro @cLe (And.intro @cGe (And.intro @cIn (And.intro @cNin (And.intro @oLt (And.intro @oLe (And.intro @oGe (And.intro @lL (And.intro @lT (And.intro @lS (And.intro @tL (And.intro @aL (And.intro @tgp (And.intro @tg2 (And.intro @jA (And.intro @jB (And.intro @jC (And.intro @jD (And.intro @jE (And.intro @jF (And.intro @jG (And.intro @jH (And.intro @jI (And.intro @jJ (And.intro @jK (And.intro @jL (And.intro @jM (And.intro @jN (And.intro @jO (@jP)))))))))))))))))))))))))))))))))))))))))))))))))
theorem den_eq {n : Str} {d : Def} {r : List (Str × Def)} : den ((n, d) :: r) n = runD (den r) d := by
 funext as; simp [den]
theorem den_ne {n f : Str} {d : Def} {r : List (Str × Def)} (h : (f == n) = false) : den ((n, d) :: r) f = den r f := by
 funext as; simp [den, h]
theorem den_skip {f : Str} : ∀ (n : Nat) {T : List (Str × Def)}, ((T.take n).all fun x => !(f == x.1)) = true → den T f = den (T.drop n) f
 | 0, _, _ => rfl
 | n + 1, [], _ => rfl
 | n + 1, (m, d) :: r, h => by
  rw [List.take_succ_cons, List.all_cons, Bool.and_eq_true, Bool.not_eq_true'] at h
  exact (den_ne h.1).trans (den_skip n h.2)
end K71
set_option maxHeartbeats 4000000
namespace K71
open PySem L2 Ci
abbrev sp (r c : Int) : PV := .tup [.int r, .int c]
abbrev scr (ns : List Int) : PV := .lst (ns.map .int)
theorem is_whole_int (F : Fns) (i : Int) : runD F d_is_whole [.int i] = .ok (.bl true) := by rfl
theorem atI_at {α : Type} {xs : List α} {k : Nat} (h : k < xs.length) : atI xs (k : Int) = some xs[k] := by
 unfold atI ixN
 have : ((k : Nat) : Int) < (xs.length : Int) := by omega
 simp [this, h]
theorem atI_map {ns : List Int} {k : Int} (h0 : 0 ≤ k) (h : k < ns.length) : ∃ m, atI (ns.map PV.int) k = some (.int m) := by
 obtain ⟨j, rfl⟩ := Int.eq_ofNat_of_zero_le h0
 refine ⟨ns[j]'(by omega), ?_⟩
 rw [atI_at (k := j) (by simp; omega)]
 simp
theorem pln_ints (ns : List Int) (n : Nat) : Ci.plain (n + 1) (.lst (ns.map .int)) = true := by
 simp only [Ci.plain, List.all_eq_true, List.mem_map]
 rintro x ⟨i, _, rfl⟩
 cases n <;> rfl
theorem eq_nil (ns : List Int) : opEq (scr ns) (.lst []) = .ok (.bl (decide (ns = []))) := by
 have e : pln (scr ns) = true := pln_ints ns 8
 unfold opEq
 rw [e]
 cases ns <;> rfl
theorem cell_ok (F : Fns) (ns : List Int) (k : Int) (hk : 0 ≤ k) : ∃ m, runD F d__law_cell [scr ns, .int k] = .ok (.int m) := by
 simp only [d__law_cell, runD, exSs, exS, evE, evEs, evO, evI, capt, tyOp, isTy, List.replicate, Nat.reduceAdd, Nat.reduceSub, reduceIte, ite_true, ite_false, J, List.length_map, eq_nil]
 by_cases h : k < (ns.length : Int)
 ·obtain ⟨m, e⟩ := atI_map hk h
  refine ⟨m, ?_⟩
  simp only [h, decide_true, runD, exSs, exS, evE, evEs, evO, evI, capt, tyOp, isTy, List.replicate, Nat.reduceAdd, Nat.reduceSub, reduceIte, ite_true, ite_false, J, subOp, e]
 ·simp only [h, decide_false, runD, exSs, exS, evE, evEs, evO, evI, capt, tyOp, isTy, List.replicate, Nat.reduceAdd, Nat.reduceSub, reduceIte, ite_true, ite_false, J, eq_nil]
  cases ns with
  | nil => exact ⟨0, rfl⟩
  | cons n ns =>
   have hl : (0 : Int) < ((n :: ns).length : Int) := by simp only [List.length_cons]; omega
   obtain ⟨m, e⟩ := atI_map (ns := n :: ns) (k := k % ((n :: ns).length : Int)) (Int.emod_nonneg _ (by omega)) (Int.emod_lt_of_pos _ hl)
   refine ⟨m * 31 + k, ?_⟩
   have e3 : (small64 m || small64 31) = true := by rw [Bool.or_eq_true]; exact .inr (by decide)
   have e4 : subOp (scr (n :: ns)) (.int (k % ((n :: ns).length : Int))) = .ok (.int m) := by simp only [subOp, e]; rfl
   have e5 : decide ((n :: ns) = []) = false := rfl
   simp only [List.length_cons] at hl e4
   simp only [e5, runD, exSs, exS, evE, evEs, evO, evI, capt, tyOp, isTy, List.replicate, Nat.reduceAdd, Nat.reduceSub, reduceIte, ite_true, ite_false, J, List.length_map, hl, e4, e3]
theorem pick_ok (F : Fns) (hc : ∀ ns k, 0 ≤ k → ∃ m, F "_law_cell" [scr ns, .int k] = .ok (.int m)) (ns : List Int) (k q : Int) (hk : 0 ≤ k) (hq : 0 < q) : ∃ m, runD F d__law_pick [scr ns, .int k, .int q] = .ok (.int m) ∧ 0 ≤ m ∧ m < q := by
 obtain ⟨m, e⟩ := hc ns k hk
 have s1 : (small64 6151 || small64 (k + 1)) = true := by rw [Bool.or_eq_true]; exact .inl (by decide)
 have s2 : (small64 (m + 6151 * (k + 1)) || small64 40692) = true := by rw [Bool.or_eq_true]; exact .inr (by decide)
 have s3 : (0 : Int) < 2147483399 := by decide
 have s4 : (0 : Int) < 2147483629 := by decide
 have s5 : (0 : Int) < 31 ∧ (31 : Int) < 1073741824 := by decide
 have a0 := Int.emod_nonneg ((m + 6151 * (k + 1)) * 40692) (b := 2147483399) (by decide)
 have a1 := Int.emod_lt_of_pos ((m + 6151 * (k + 1)) * 40692) s3
 refine ⟨((((m + 6151 * (k + 1)) * 40692 % 2147483399) * ((m + 6151 * (k + 1)) * 40692 % 2147483399) + ((m + 6151 * (k + 1)) * 40692 % 2147483399) / 31) % 2147483629) % q, ?_, Int.emod_nonneg _ (by omega), Int.emod_lt_of_pos _ hq⟩
 generalize hd : (m + 6151 * (k + 1)) * 40692 % 2147483399 = d at a0 a1
 have s6 : (small64 d || small64 d) = true := by
  have : small64 d = true := by simp only [small64, Bool.and_eq_true, decide_eq_true_eq]; omega
  rw [this]; rfl
 simp only [d__law_pick, runD, exSs, exS, evE, evEs, evO, evI, capt, tyOp, isTy, List.replicate, Nat.reduceAdd, Nat.reduceSub, reduceIte, ite_true, ite_false, J, scr] at e ⊢
 simp only [e, runD, exSs, exS, evE, evEs, evO, evI, capt, tyOp, isTy, List.replicate, Nat.reduceAdd, Nat.reduceSub, reduceIte, ite_true, ite_false, J, s1, s2, s3, s4, s5, hd, s6, hq, and_self]
def Rok (rows : List Str) : Prop := rows.length ≤ 6 ∧ ∀ z ∈ rows, z.length ≤ 6
abbrev fl (rows : List Str) : PV := .tup (rows.map .str)
def cd (rows : List Str) (r c : Nat) : Option Nat := (rows[r]?).bind fun z => z.cps.toList[c]?
def opN (rows : List Str) (r c : Nat) : Bool := match cd rows r c with | some x => x != 35 | none => false
def opn (rows : List Str) (r c : Int) : Bool := decide (0 ≤ r) && decide (0 ≤ c) && opN rows r.toNat c.toNat
theorem is_spot_ok (F : Fns) (h : ∀ i, F "is_whole" [.int i] = .ok (.bl true)) (r c : Int) : runD F d_is_spot [sp r c] = .ok (.bl true) := by
 have e0 : subOp (sp r c) (.int 0) = .ok (.int r) := rfl
 have e1 : subOp (sp r c) (.int 1) = .ok (.int c) := rfl
 have e2 : opEq (.int ((2 : Nat) : Int)) (.int 2) = .ok (.bl true) := rfl
 simp only [d_is_spot, runD, exSs, exS, evE, evEs, evO, evI, capt, tyOp, isTy, List.replicate, Nat.reduceAdd, Nat.reduceSub, reduceIte, ite_true, ite_false, J, bLen, h, e0, e1, e2]
theorem on_ok (F : Fns) (rows : List Str) (R : Rok rows) (r c : Int) : runD F d_is_on_floor [fl rows, sp r c] = .ok (.bl (decide (0 ≤ r) && decide (0 ≤ c) && (cd rows r.toNat c.toNat).isSome)) := by
 have e0 : subOp (sp r c) (.int 0) = .ok (.int r) := rfl
 have e1 : subOp (sp r c) (.int 1) = .ok (.int c) := rfl
 simp only [d_is_on_floor, runD, exSs, exS, evE, evEs, evO, evI, capt, tyOp, isTy, List.replicate, Nat.reduceAdd, Nat.reduceSub, reduceIte, ite_true, ite_false, J, bLen, e0, e1, opLe, opLt, List.length_map]
 by_cases h0 : 0 ≤ r
 ·by_cases h1 : r < (rows.length : Int)
  ·obtain ⟨j, rfl⟩ := Int.eq_ofNat_of_zero_le h0
   have hj : j < rows.length := by omega
   have e2 : subOp (fl rows) (.int (j : Int)) = .ok (.str rows[j]) := by
    simp only [subOp, fl]
    rw [atI_at (k := j) (by simpa using hj)]
    simp [Res.of]
   have e3 : (rows[j]).length ≤ LIM := Nat.le_trans (R.2 _ (List.getElem_mem hj)) (by decide)
   have e4 : (rows[j]).cps.size = (rows[j]).length := rfl
   simp only [h0, h1, decide_true, runD, exSs, exS, evE, evEs, evO, evI, capt, tyOp, isTy, List.replicate, Nat.reduceAdd, Nat.reduceSub, reduceIte, ite_true, ite_false, J, e2, e3]
   by_cases h2 : 0 ≤ c
   ·obtain ⟨i, rfl⟩ := Int.eq_ofNat_of_zero_le h2
    simp only [h2, decide_true, runD, exSs, exS, evE, evEs, evO, evI, capt, tyOp, isTy, List.replicate, Nat.reduceAdd, Nat.reduceSub, reduceIte, ite_true, ite_false, J, cd, Int.toNat_natCast, List.getElem?_eq_getElem hj, Option.bind_some, Bool.and_self, Bool.true_and, Res.ok.injEq, PV.bl.injEq]
    rw [Bool.eq_iff_iff]
    simp [e4]
   ·simp [runD, exSs, exS, evE, evEs, evO, evI, capt, tyOp, isTy, List.replicate, Nat.reduceAdd, Nat.reduceSub, reduceIte, ite_true, ite_false, J, h2]
  ·have : cd rows r.toNat c.toNat = none := by
    unfold cd; rw [List.getElem?_eq_none (by omega)]; rfl
   simp [runD, exSs, exS, evE, evEs, evO, evI, capt, tyOp, isTy, List.replicate, Nat.reduceAdd, Nat.reduceSub, reduceIte, ite_true, ite_false, J, h0, h1, this]
 ·simp [runD, exSs, exS, evE, evEs, evO, evI, capt, tyOp, isTy, List.replicate, Nat.reduceAdd, Nat.reduceSub, reduceIte, ite_true, ite_false, J, h0]
theorem row_at {rows : List Str} {j : Nat} {z : Str} (h : rows[j]? = some z) : subOp (fl rows) (.int (j : Int)) = .ok (.str z) := by
 obtain ⟨hj, rfl⟩ := List.getElem?_eq_some_iff.1 h
 simp only [subOp, fl]
 rw [atI_at (k := j) (by simpa using hj)]
 simp [Res.of]
theorem sign_at {z : Str} {i x : Nat} (hz : z.length ≤ LIM) (h : z.cps.toList[i]? = some x) : subOp (.str z) (.int (i : Int)) = .ok (.str ⟨#[x]⟩) := by
 obtain ⟨hj, rfl⟩ := List.getElem?_eq_some_iff.1 h
 simp only [subOp, hz, if_true]
 rw [atI_at (k := i) hj]
 rfl
theorem cd_at {rows : List Str} (R : Rok rows) {j i x : Nat} (h : cd rows j i = some x) : ∃ z, rows[j]? = some z ∧ subOp (fl rows) (.int (j : Int)) = .ok (.str z) ∧ subOp (.str z) (.int (i : Int)) = .ok (.str ⟨#[x]⟩) := by
 unfold cd at h
 cases hz : rows[j]? with
 | none => rw [hz] at h; cases h
 | some z =>
  rw [hz] at h
  exact ⟨z, rfl, row_at hz, sign_at (Nat.le_trans (R.2 _ (List.mem_of_getElem? hz)) (by decide)) h⟩
theorem sgn_ne (x : Nat) : opNe (.str ⟨#[x]⟩) (.str "#") = .ok (.bl (x != 35)) := by
 have : (("#" : Str)) = ⟨#[35]⟩ := by decide +kernel
 rw [this]
 show Res.ok (PV.bl (!((⟨#[x]⟩ : Str) == ⟨#[35]⟩))) = _
 congr 2
 rw [bne, Bool.eq_iff_iff]
 simp
theorem open_ok (F : Fns) (hs : ∀ r c, F "is_spot" [sp r c] = .ok (.bl true)) (ho : ∀ rows, Rok rows → ∀ r c, F "is_on_floor" [fl rows, sp r c] = .ok (.bl (decide (0 ≤ r) && decide (0 ≤ c) && (cd rows r.toNat c.toNat).isSome)))
 (rows : List Str) (R : Rok rows) (r c : Int) : runD F d_is_open [fl rows, sp r c] = .ok (.bl (opn rows r c)) := by
 have e0 : subOp (sp r c) (.int 0) = .ok (.int r) := rfl
 have e1 : subOp (sp r c) (.int 1) = .ok (.int c) := rfl
 simp only [d_is_open, runD, exSs, exS, evE, evEs, evO, evI, capt, tyOp, isTy, List.replicate, Nat.reduceAdd, Nat.reduceSub, reduceIte, ite_true, ite_false, J, hs, ho rows R, e0, e1]
 unfold opn opN
 by_cases h0 : 0 ≤ r
 ·by_cases h1 : 0 ≤ c
  ·obtain ⟨j, rfl⟩ := Int.eq_ofNat_of_zero_le h0
   obtain ⟨i, rfl⟩ := Int.eq_ofNat_of_zero_le h1
   simp only [h0, h1, decide_true, Bool.true_and, Bool.and_self, Int.toNat_natCast]
   cases hc : cd rows j i with
   | none => simp [runD, exSs, exS, evE, evEs, evO, evI, capt, tyOp, isTy, List.replicate, Nat.reduceAdd, Nat.reduceSub, reduceIte, ite_true, ite_false, J]
   | some x =>
    obtain ⟨z, _, e2, e3⟩ := cd_at R hc
    simp only [Option.isSome_some, runD, exSs, exS, evE, evEs, evO, evI, capt, tyOp, isTy, List.replicate, Nat.reduceAdd, Nat.reduceSub, reduceIte, ite_true, ite_false, J, e2, e3, sgn_ne]
  ·simp [runD, exSs, exS, evE, evEs, evO, evI, capt, tyOp, isTy, List.replicate, Nat.reduceAdd, Nat.reduceSub, reduceIte, ite_true, ite_false, J, h1]
 ·simp [runD, exSs, exS, evE, evEs, evO, evI, capt, tyOp, isTy, List.replicate, Nat.reduceAdd, Nat.reduceSub, reduceIte, ite_true, ite_false, J, h0]
abbrev spP (p : Int × Int) : PV := sp p.1 p.2
theorem compL_map {α : Type} {f : PV → Res (Option PV)} {p : α → PV} {g : α → PV} : ∀ {xs : List α}, (∀ x ∈ xs, f (p x) = .ok (some (g x))) → compL f (xs.map p) = .ok (xs.map g)
 | [], _ => rfl
 | x :: xs, h => by
  simp only [List.map_cons, compL, h x (List.mem_cons_self ..), Res.well, Res.bind, compL_map (xs := xs) fun y hy => h y (List.mem_cons_of_mem _ hy), oc]
def sq (rows : List Str) (r c : Int) (k : Nat) : Prop := ∀ x y : Nat, x < k → y < k → opn rows (r + x) (c + y) = true
theorem opn_iff {rows : List Str} {r c : Int} : opn rows r c = true ↔ 0 ≤ r ∧ 0 ≤ c ∧ opN rows r.toNat c.toNat = true := by
 simp only [opn, Bool.and_eq_true, decide_eq_true_eq, and_assoc]
theorem bools_map : ∀ bs : List Bool, boolsOf (bs.map .bl) = some bs
 | [] => rfl
 | b :: bs => by simp only [List.map_cons, boolsOf, bools_map bs, Option.map_some]
end K71
set_option maxHeartbeats 4000000
namespace K71
open PySem L2 Ci
def sqB (rows : List Str) (r c : Int) (k : Nat) : Bool := (List.range k).all fun x => (List.range k).all fun y => opn rows (r + (x : Nat)) (c + (y : Nat))
def sgn (rows : List Str) (s : Nat) (r c x : Nat) : Nat := if sqB rows r c s then x else 35
theorem forL_list {body : PV → Sl → Res Fl} {P : Nat → Sl → Prop} : ∀ (xs : List PV) (k : Nat) (env : Sl), P k env → (∀ i x env, xs[i]? = some x → P (k + i) env → ∃ env', body x env = .ok (.nx env') ∧ P (k + i + 1) env') → ∃ env', forL body xs env = .ok (.nx env') ∧ P (k + xs.length) env'
 | [], k, env, h, _ => ⟨env, rfl, h⟩
 | x :: xs, k, env, h, g => by
  obtain ⟨e1, b1, p1⟩ := g 0 x env rfl h
  obtain ⟨e2, b2, p2⟩ := forL_list xs (k + 1) e1 p1 fun i y env hy hp => by
   obtain ⟨e3, b3, p3⟩ := g (i + 1) y env hy (by rw [show k + (i + 1) = k + 1 + i by omega]; exact hp)
   exact ⟨e3, b3, by rw [show k + 1 + i + 1 = k + (i + 1) + 1 by omega]; exact p3⟩
  refine ⟨e2, ?_, by rw [List.length_cons, show k + (xs.length + 1) = k + 1 + xs.length by omega]; exact p2⟩
  simp only [forL, b1, bok, b2]
theorem rng_at {n i : Nat} {x : PV} (h : (rngP 0 n)[i]? = some x) : i < n ∧ x = .int (i : Int) := by
 simp only [rngP, List.getElem?_map, Option.map_eq_some_iff] at h
 obtain ⟨j, hj, rfl⟩ := h
 obtain ⟨h1, h2⟩ := List.getElem?_eq_some_iff.1 hj
 simp only [List.getElem_range] at h2
 subst h2
 simp only [List.length_range] at h1
 exact ⟨h1, by simp⟩
end K71
set_option maxHeartbeats 4000000
namespace K71
open PySem L2 Ci
def PickOk (F : Fns) : Prop := ∀ (ns : List Int) (k q : Int), 0 ≤ k → 0 < q → ∃ m, F "_law_pick" [scr ns, .int k, .int q] = .ok (.int m) ∧ 0 ≤ m ∧ m < q
theorem four_ok {a b c d m : Int} (h0 : 0 ≤ m) (h1 : m < 4) : ∃ v, subOp (.lst [.int a, .int b, .int c, .int d]) (.int m) = .ok (.int v) ∧ (v = a ∨ v = b ∨ v = c ∨ v = d) := by
 have : m = 0 ∨ m = 1 ∨ m = 2 ∨ m = 3 := by omega
 rcases this with rfl | rfl | rfl | rfl
 ·exact ⟨a, rfl, .inl rfl⟩
 ·exact ⟨b, rfl, .inr (.inl rfl)⟩
 ·exact ⟨c, rfl, .inr (.inr (.inl rfl))⟩
 ·exact ⟨d, rfl, .inr (.inr (.inr rfl))⟩
def fIn : Ss := (.cons (.set 11 (.call "_law_pick" (.cons (.var 0) (.cons (.bin .add (.bin .add (.bin .add (.var 1) (.cst (.int 4))) (.bin .mul (.var 2) (.var 8))) (.var 10)) (.cons (.bin .mul (.cst (.int 12)) (.var 6)) .nil)))))
 (.cons (.set 9 (.bin .add (.var 9) (.ite (.cmp .lt (.bin .mod (.var 11) (.cst (.int 12))) (.var 5)) (.cst (.str "#")) (.blt .str (.cons (.bin .fdiv (.var 11) (.cst (.int 12))) .nil)))))
 .nil))
def fOut : Ss := (.cons (.set 9 (.cst (.str "")))
 (.cons (.for_ (.one 10) (.rng (.var 4)) fIn)
 (.cons (.app 7 (.var 9))
 .nil)))
end K71
set_option maxHeartbeats 4000000
namespace K71
open PySem L2 Ci
abbrev spN (p : Nat × Nat) : PV := sp p.1 p.2
theorem enum_at : ∀ {xs : List PV} {k i : Nat} {x : PV}, (enumP k xs)[i]? = some x → ∃ y, xs[i]? = some y ∧ x = .tup [.int ((k + i : Nat) : Int), y]
 | [], _, _, _, h => by cases h
 | y :: ys, k, 0, x, h => by
  simp only [enumP, List.getElem?_cons_zero, Option.some.injEq] at h
  exact ⟨y, rfl, h.symm⟩
 | y :: ys, k, i + 1, x, h => by
  simp only [enumP, List.getElem?_cons_succ] at h
  obtain ⟨w, h1, h2⟩ := enum_at h
  refine ⟨w, h1, ?_⟩
  rw [h2, show k + 1 + i = k + (i + 1) by omega]
theorem enum_len : ∀ (xs : List PV) (k : Nat), (enumP k xs).length = xs.length
 | [], _ => rfl
 | x :: xs, k => by simp only [enumP, List.length_cons, enum_len xs]
theorem comp_row {f : PV → Res (Option PV)} {r : Nat} (hf : ∀ c x : Nat, f (.tup [.int c, .str ⟨#[x]⟩]) = .ok (if x != 35 then some (sp r c) else none)) : ∀ (xs : List Nat) (k : Nat), ∃ L : List (Nat × Nat), compL f (enumP k (xs.map fun x => .str ⟨#[x]⟩)) = .ok (L.map spN) ∧ L.length ≤ xs.length ∧ ∀ a b, (a, b) ∈ L ↔ a = r ∧ k ≤ b ∧ ∃ x, xs[b - k]? = some x ∧ x ≠ 35
 | [], k => ⟨[], rfl, Nat.le_refl _, fun a b => by simp⟩
 | x :: xs, k => by
  obtain ⟨L, e, l, h⟩ := comp_row hf xs (k + 1)
  by_cases hx : x = 35
  ·refine ⟨L, ?_, Nat.le_succ_of_le l, fun a b => ?_⟩
   ·have : (x != 35) = false := by simp [hx]
    simp only [List.map_cons, enumP, compL, hf, this, wok, bok, e, oc]
    rfl
   ·rw [h]
    constructor
    ·rintro ⟨h1, h2, y, h3, h4⟩
     refine ⟨h1, by omega, y, ?_, h4⟩
     rw [show b - k = (b - (k + 1)) + 1 by omega]
     exact h3
    ·rintro ⟨h1, h2, y, h3, h4⟩
     have : b ≠ k := by
      rintro rfl
      simp at h3
      omega
     refine ⟨h1, by omega, y, ?_, h4⟩
     rw [show b - k = (b - (k + 1)) + 1 by omega] at h3
     exact h3
  ·refine ⟨(r, k) :: L, ?_, Nat.succ_le_succ l, fun a b => ?_⟩
   ·have : (x != 35) = true := by simp [hx]
    simp only [List.map_cons, enumP, compL, hf, this, wok, bok, e, oc, if_true]
   ·rw [List.mem_cons, h]
    constructor
    ·rintro (h1 | ⟨h1, h2, y, h3, h4⟩)
     ·cases h1
      exact ⟨rfl, Nat.le_refl _, x, by simp, hx⟩
     ·refine ⟨h1, by omega, y, ?_, h4⟩
      rw [show b - k = (b - (k + 1)) + 1 by omega]
      exact h3
    ·rintro ⟨h1, h2, y, h3, h4⟩
     by_cases hb : b = k
     ·subst hb; subst h1; exact .inl rfl
     ·refine .inr ⟨h1, by omega, y, ?_, h4⟩
      rw [show b - k = (b - (k + 1)) + 1 by omega] at h3
      exact h3
theorem opN_iff {rows : List Str} {r c : Nat} : opN rows r c = true ↔ ∃ z, rows[r]? = some z ∧ ∃ x, z.cps.toList[c]? = some x ∧ x ≠ 35 := by
 unfold opN cd
 cases hz : rows[r]? with
 | none => simp
 | some z =>
  simp only [Option.bind_some]
  cases hx : z.cps.toList[c]? with
  | none =>
   refine ⟨(fun h => by cases h), ?_⟩
   rintro ⟨w, hw, x, hx', _⟩
   cases hw
   rw [hx] at hx'
   cases hx'
  | some x =>
   refine ⟨fun h => ⟨z, rfl, x, hx, by simpa using h⟩, ?_⟩
   rintro ⟨w, hw, y, hy, h⟩
   cases hw
   rw [hx] at hy
   cases hy
   simpa using h
theorem itT {xs : List PV} : itemsOf (.tup xs) = .ok xs := id rfl
theorem itL {xs : List PV} : itemsOf (.lst xs) = .ok xs := id rfl
theorem itS {z : Str} : itemsOf (.str z) = .ok (chars z) := id rfl
def pBody : Ss := (.cons (.extd 1 (.compIf 2 [2] (.two 0 1) (.enum (.var 3)) (.cmp .ne (.var 1) (.cst (.str "#"))) (.tup (.cons (.var 2) (.cons (.var 0) .nil)))))
 .nil)
def SpotsOk (F : Fns) : Prop := ∀ rows, Rok rows → ∃ L : List (Nat × Nat), F "_law_spots" [fl rows] = .ok (.lst (L.map spN)) ∧ L.length < LIM ∧ ∀ r c, (r, c) ∈ L ↔ opN rows r c = true
theorem spots_ok (F : Fns) (rows : List Str) (R : Rok rows) : ∃ L : List (Nat × Nat), runD F d__law_spots [fl rows] = .ok (.lst (L.map spN)) ∧ L.length < LIM ∧ ∀ r c, (r, c) ∈ L ↔ opN rows r c = true := by
 have hrl := R.1
 obtain ⟨env', e, L, s2, s3, hl, hm, rfl⟩ := forL_list (body := fun x env => ((Tg.two 2 3).put x env).bind fun env' => exSs F pBody env') (P := fun i env => ∃ (L : List (Nat × Nat)) (s2 s3 : Slot), L.length ≤ 6 * i ∧ (∀ r c, (r, c) ∈ L ↔ r < i ∧ opN rows r c = true) ∧ env = [.val (fl rows), .own (.lst (L.map spN)), s2, s3])
  (enumP 0 (rows.map .str)) 0 [.val (fl rows), .own (.lst []), .no, .no] ⟨[], _, _, Nat.le_refl _, (fun r c => by simp), rfl⟩ (by
  intro i x env hx hq
  obtain ⟨y, hy, rfl⟩ := enum_at hx
  obtain ⟨L, s2, s3, hl, hm, rfl⟩ := hq
  simp only [List.getElem?_map, Option.map_eq_some_iff] at hy
  obtain ⟨z, hz, rfl⟩ := hy
  have hzl := R.2 z (List.mem_of_getElem? hz)
  have hi : i < rows.length := (List.getElem?_eq_some_iff.1 hz).1
  obtain ⟨M, eM, lM, hM⟩ := comp_row (f := fun x => ((Tg.two 0 1).put x [.no, .no, .val (.int i)]).bind fun env' => ((slotV env'[1]?).bind fun x => opNe x (.str "#")).bind fun t => asB t fun t => if t then (((slotV env'[2]?).bind fun p => ((slotV env'[0]?).bind fun p => .ok [p]).bind fun ps => .ok (p :: ps)).bind fun ps => .ok (.tup ps)).bind fun y => .ok (some y) else .ok none) (r := i) (fun c x => by
   simp only [runD, exSs, exS, evE, evEs, evO, evI, capt, tyOp, isTy, List.replicate, Nat.reduceAdd, Nat.reduceSub, reduceIte, ite_true, ite_false, J, sgn_ne]
   cases (x != 35) <;> rfl) z.cps.toList 0
  have lz : (enumP 0 (chars z)).length < LIM := by
   rw [enum_len]
   refine Nat.lt_of_le_of_lt (m := 6) ?_ (by decide)
   simpa [chars, Str.length] using hzl
  have ll : (L.map spN).length + (M.map spN).length ≤ LIM := by
   refine Nat.le_trans (m := 100) ?_ (by decide)
   simp only [List.length_map]
   have : z.cps.toList.length = z.length := by simp [Str.length]
   omega
  refine ⟨[.val (fl rows), .own (.lst ((L ++ M).map spN)), .val (.int i), .val (.str z)], ?_, L ++ M, _, _, ?_, ?_, rfl⟩
  ·simp only [pBody, runD, exSs, exS, evE, evEs, evO, evI, capt, tyOp, isTy, List.replicate, Nat.reduceAdd, Nat.reduceSub, reduceIte, ite_true, ite_false, J, itS, Nat.zero_add, lz]
   rw [show chars z = z.cps.toList.map fun x => PV.str ⟨#[x]⟩ from rfl, eM]
   simp only [runD, exSs, exS, evE, evEs, evO, evI, capt, tyOp, isTy, List.replicate, Nat.reduceAdd, Nat.reduceSub, reduceIte, ite_true, ite_false, J, ll, List.map_append]
  ·have : z.cps.toList.length = z.length := by simp [Str.length]
   simp only [List.length_append]
   omega
  ·intro r c
   rw [List.mem_append, hm, hM, opN_iff]
   constructor
   ·rintro (⟨h1, h2⟩ | ⟨rfl, _, x, h3, h4⟩)
    ·exact ⟨by omega, h2⟩
    ·exact ⟨by omega, z, hz, x, h3, h4⟩
   ·rintro ⟨h1, w, h2, x, h3, h4⟩
    by_cases hr : r = i
    ·subst hr
     rw [hz] at h2
     cases h2
     exact .inr ⟨rfl, Nat.zero_le _, x, h3, h4⟩
    ·exact .inl ⟨by omega, w, h2, x, h3, h4⟩)
 refine ⟨L, ?_, Nat.lt_of_le_of_lt (m := 36) (by rw [enum_len, List.length_map] at hl; omega) (by decide), fun r c => ?_⟩
 ·simp only [pBody, runD, exSs, exS, evE, evEs, evO, evI, capt, tyOp, isTy, List.replicate, Nat.reduceAdd, Nat.reduceSub, reduceIte, ite_true, ite_false, J] at e
  simp only [d__law_spots, runD, exSs, exS, evE, evEs, evO, evI, capt, tyOp, isTy, List.replicate, Nat.reduceAdd, Nat.reduceSub, reduceIte, ite_true, ite_false, J, itT, e, List.modify_succ_cons, List.modify_zero_cons, fxo]
 ·rw [hm]
  refine ⟨fun h => h.2, fun h => ⟨?_, h⟩⟩
  obtain ⟨z, hz, _⟩ := opN_iff.1 h
  have := (List.getElem?_eq_some_iff.1 hz).1
  rw [enum_len, List.length_map]
  omega
end K71
set_option maxHeartbeats 4000000
namespace K03
open PySem L2 Ci K71
abbrev d__law_cell : Def := K71.d__law_cell
abbrev d__law_pick : Def := K71.d__law_pick
abbrev d__law_floor : Def := K71.d__law_floor
def d__law_walker : Def := ⟨["_law_script", "_law_at"], 2, (.cons (.ret (.tup (.cons (.cmp .eq (.call "_law_pick" (.cons (.var 0) (.cons (.var 1) (.cons (.cst (.int 2)) .nil)))) (.cst (.int 0))) (.cons (.sub (.lst (.cons (.cst (.int 0)) (.cons (.cst (.int 1)) (.cons (.cst (.int 2)) (.cons (.cst (.int 9)) .nil))))) (.call "_law_pick" (.cons (.var 0) (.cons (.bin .add (.var 1) (.cst (.int 1))) (.cons (.cst (.int 4)) .nil))))) (.cons (.call "_law_pick" (.cons (.var 0) (.cons (.bin .add (.var 1) (.cst (.int 2))) (.cons (.cst (.int 4)) .nil)))) .nil)))))
 .nil)⟩
abbrev d__law_spots : Def := K71.d__law_spots
def d__law_cost : Def := ⟨["_law_floor_here", "_law_walker_here", "_law_spot", "_law_goal", "_law_rise", "_law_cost_here"], 4, (.cons (.set 4 (.bin .sub (.blt .int (.cons (.sub (.sub (.var 0) (.sub (.var 3) (.cst (.int 0)))) (.sub (.var 3) (.cst (.int 1)))) .nil)) (.blt .int (.cons (.sub (.sub (.var 0) (.sub (.var 2) (.cst (.int 0)))) (.sub (.var 2) (.cst (.int 1)))) .nil))))
 (.cons (.set 5 (.cst (.int 2)))
 (.cons (.ite (.or (.cmp .gt (.var 4) (.sub (.var 1) (.cst (.int 1)))) (.cmp .gt (.bin .sub (.cst (.int 0)) (.var 4)) (.sub (.var 1) (.cst (.int 1)))))
  (.cons (.ret (.cst .non))
  .nil)
  .nil)
 (.cons (.ite (.and (.cmp .ne (.sub (.var 2) (.cst (.int 0))) (.sub (.var 3) (.cst (.int 0)))) (.cmp .ne (.sub (.var 2) (.cst (.int 1))) (.sub (.var 3) (.cst (.int 1)))))
  (.cons (.ite (.or (.not (.sub (.var 1) (.cst (.int 0)))) (.or (.cmp .eq (.sub (.sub (.var 0) (.sub (.var 2) (.cst (.int 0)))) (.sub (.var 3) (.cst (.int 1)))) (.cst (.str "#"))) (.cmp .eq (.sub (.sub (.var 0) (.sub (.var 3) (.cst (.int 0)))) (.sub (.var 2) (.cst (.int 1)))) (.cst (.str "#")))))
   (.cons (.ret (.cst .non))
   .nil)
   .nil)
  (.cons (.set 5 (.cst (.int 3)))
  .nil))
  .nil)
 (.cons (.ret (.bin .add (.var 5) (.ite (.cmp .gt (.var 4) (.cst (.int 0))) (.bin .mul (.sub (.var 1) (.cst (.int 2))) (.var 4)) (.cst (.int 0)))))
 .nil)))))⟩
def d__law_steps : Def := ⟨["_law_floor_here", "_law_walker_here", "_law_spot", "_law_made", "_law_k", "_law_row", "_law_column", "_law_cost_here"], 3, (.cons (.own 3 (.lst .nil))
 (.cons (.for_ (.one 4) (.rng (.cst (.int 9)))
  (.cons (.set 5 (.bin .add (.bin .sub (.sub (.var 2) (.cst (.int 0))) (.cst (.int 1))) (.bin .fdiv (.var 4) (.cst (.int 3)))))
  (.cons (.set 6 (.bin .add (.bin .sub (.sub (.var 2) (.cst (.int 1))) (.cst (.int 1))) (.bin .mod (.var 4) (.cst (.int 3)))))
  (.cons (.ite (.and (.ch .le .lt (.cst (.int 0)) (.var 5) (.blt .len (.cons (.var 0) .nil))) (.and (.ch .le .lt (.cst (.int 0)) (.var 6) (.blt .len (.cons (.sub (.var 0) (.cst (.int 0))) .nil))) (.and (.cmp .ne (.var 4) (.cst (.int 4))) (.cmp .ne (.sub (.sub (.var 0) (.var 5)) (.var 6)) (.cst (.str "#"))))))
   (.cons (.set 7 (.call "_law_cost" (.cons (.var 0) (.cons (.var 1) (.cons (.var 2) (.cons (.tup (.cons (.var 5) (.cons (.var 6) .nil))) .nil))))))
   (.cons (.ite (.cmp .isn (.var 7) (.cst .non))
    (.cons (.app 3 (.tup (.cons (.tup (.cons (.var 5) (.cons (.var 6) .nil))) (.cons (.var 7) .nil))))
    .nil)
    .nil)
   .nil))
   .nil)
  .nil))))
 (.cons (.frz 3)
 (.cons (.ret (.var 3))
 .nil))))⟩
def d__law_sum : Def := ⟨["_law_floor_here", "_law_walker_here", "_law_way", "_law_spots_here", "_law_cost_here", "_law_k", "_law_goal", "_law_found"], 3, (.cons (.set 3 (.call "_law_spots" (.cons (.var 0) .nil)))
 (.cons (.ite (.or (.not (.ty .list (.var 2))) (.or (.cmp .eq (.var 2) (.lst .nil)) (.cmp .ne (.compIf 1 [3] (.one 0) (.seq (.var 2)) (.cmp .nin (.var 0) (.var 1)) (.var 0)) (.lst .nil))))
  (.cons (.ret (.cst .non))
  .nil)
  .nil)
 (.cons (.set 4 (.cst (.int 0)))
 (.cons (.for_ (.two 5 6) (.enum (.slice (.var 2) (.some (.cst (.int 1))) .no))
  (.cons (.set 7 (.compIf 1 [6] (.one 0) (.seq (.call "_law_steps" (.cons (.var 0) (.cons (.var 1) (.cons (.sub (.var 2) (.var 5)) .nil))))) (.cmp .eq (.sub (.var 0) (.cst (.int 0))) (.var 1)) (.sub (.var 0) (.cst (.int 1)))))
  (.cons (.ite (.cmp .eq (.var 7) (.lst .nil))
   (.cons (.ret (.cst .non))
   .nil)
   .nil)
  (.cons (.set 4 (.bin .add (.var 4) (.sub (.var 7) (.cst (.int 0)))))
  .nil))))
 (.cons (.ret (.var 4))
 .nil)))))⟩
def d__law_any_spot : Def := ⟨["_law_script", "_law_at", "_law_floor_here"], 3, (.cons (.ret (.tup (.cons (.bin .sub (.call "_law_pick" (.cons (.var 0) (.cons (.var 1) (.cons (.bin .add (.blt .len (.cons (.var 2) .nil)) (.cst (.int 2))) .nil)))) (.cst (.int 1))) (.cons (.bin .sub (.call "_law_pick" (.cons (.var 0) (.cons (.bin .add (.var 1) (.cst (.int 1))) (.cons (.bin .add (.blt .len (.cons (.sub (.var 2) (.cst (.int 0))) .nil)) (.cst (.int 2))) .nil)))) (.cst (.int 1))) .nil))))
 .nil)⟩
abbrev d_is_whole : Def := K71.d_is_whole
abbrev d_is_spot : Def := K71.d_is_spot
abbrev d_is_on_floor : Def := K71.d_is_on_floor
abbrev d_is_open : Def := K71.d_is_open
def d_is_list_of_open_spots : Def := ⟨["floor", "thing"], 2, (.cons (.ite (.or (.not (.ty .list (.var 1))) (.cmp .eq (.blt .len (.cons (.var 1) .nil)) (.cst (.int 0))))
 (.cons (.ret (.cst (.bl false)))
 .nil)
 .nil)
 (.cons (.ret (.blt .all (.cons (.comp 1 [0] (.one 0) (.seq (.var 1)) (.call "is_open" (.cons (.var 1) (.cons (.var 0) .nil)))) .nil)))
 .nil))⟩
def d_are_beside : Def := ⟨["one", "other"], 2, (.cons (.ret (.and (.cmp .ne (.var 0) (.var 1)) (.and (.cmp .le (.blt .abs (.cons (.bin .sub (.sub (.var 0) (.cst (.int 0))) (.sub (.var 1) (.cst (.int 0)))) .nil)) (.cst (.int 1))) (.cmp .le (.blt .abs (.cons (.bin .sub (.sub (.var 0) (.cst (.int 1))) (.sub (.var 1) (.cst (.int 1)))) .nil)) (.cst (.int 1))))))
 .nil)⟩
abbrev d_need_open : Def := K71.d_need_open
def d_height_at : Def := ⟨["floor", "spot"], 2, (.cons (.expr (.call "need_open" (.cons (.var 0) (.cons (.var 1) .nil))))
 (.cons (.ret (.blt .int (.cons (.sub (.sub (.var 0) (.sub (.var 1) (.cst (.int 0)))) (.sub (.var 1) (.cst (.int 1)))) .nil)))
 .nil))⟩
def d_has_open_corners : Def := ⟨["floor", "one", "other"], 3, (.cons (.ret (.and (.call "is_open" (.cons (.var 0) (.cons (.tup (.cons (.sub (.var 1) (.cst (.int 0))) (.cons (.sub (.var 2) (.cst (.int 1))) .nil))) .nil))) (.call "is_open" (.cons (.var 0) (.cons (.tup (.cons (.sub (.var 2) (.cst (.int 0))) (.cons (.sub (.var 1) (.cst (.int 1))) .nil))) .nil)))))
 .nil)⟩
def d_step_cost : Def := ⟨["floor", "walker", "one", "other", "is_slanting", "rise", "flat_cost"], 4, (.cons (.ite (.not (.call "are_beside" (.cons (.var 2) (.cons (.var 3) .nil))))
 (.cons (.ret (.cst .non))
 .nil)
 .nil)
 (.cons (.set 4 (.and (.cmp .ne (.sub (.var 2) (.cst (.int 0))) (.sub (.var 3) (.cst (.int 0)))) (.cmp .ne (.sub (.var 2) (.cst (.int 1))) (.sub (.var 3) (.cst (.int 1))))))
 (.cons (.ite (.and (.var 4) (.not (.and (.sub (.var 1) (.cst (.int 0))) (.call "has_open_corners" (.cons (.var 0) (.cons (.var 2) (.cons (.var 3) .nil)))))))
  (.cons (.ret (.cst .non))
  .nil)
  .nil)
 (.cons (.set 5 (.bin .sub (.call "height_at" (.cons (.var 0) (.cons (.var 3) .nil))) (.call "height_at" (.cons (.var 0) (.cons (.var 2) .nil)))))
 (.cons (.ite (.cmp .gt (.blt .abs (.cons (.var 5) .nil)) (.sub (.var 1) (.cst (.int 1))))
  (.cons (.ret (.cst .non))
  .nil)
  .nil)
 (.cons (.set 6 (.ite (.var 4) (.glob "SLANTING_COST" (.int 3)) (.glob "STRAIGHT_COST" (.int 2))))
 (.cons (.ret (.bin .add (.var 6) (.bin .mul (.sub (.var 1) (.cst (.int 2))) (.blt .max2 (.cons (.var 5) (.cons (.cst (.int 0)) .nil))))))
 .nil)))))))⟩
def d_costs_along : Def := ⟨["floor", "walker", "spots"], 3, (.cons (.ret (.comp 2 [1, 0] (.two 0 1) (.zip (.var 2) (.slice (.var 2) (.some (.cst (.int 1))) .no)) (.call "step_cost" (.cons (.var 3) (.cons (.var 2) (.cons (.var 0) (.cons (.var 1) .nil)))))))
 .nil)⟩
def d_is_way : Def := ⟨["floor", "walker", "thing"], 3, (.cons (.ret (.and (.call "is_list_of_open_spots" (.cons (.var 0) (.cons (.var 2) .nil))) (.cmp .nin (.cst .non) (.call "costs_along" (.cons (.var 0) (.cons (.var 1) (.cons (.var 2) .nil)))))))
 .nil)⟩
def d__law_word : Def := ⟨["_law_kept", "_law_kinds"], 1, (.cons (.set 1 (.lst (.cons (.isx "NoSign" (.var 0)) (.cons (.isx "NoSize" (.var 0)) (.cons (.isx "NoSpot" (.var 0)) (.cons (.isx "NoWay" (.var 0)) .nil))))))
 (.cons (.ite (.or (.cmp .ne (.mth .countL (.var 1) (.cons (.cst (.bl true)) .nil)) (.cst (.int 1))) (.or (.not (.isx "ValueError" (.var 0))) (.not (.isx "FloorError" (.var 0)))))
  (.cons (.ret (.cst (.str "wrong")))
  .nil)
  .nil)
 (.cons (.ret (.sub (.lst (.cons (.cst (.str "no sign")) (.cons (.cst (.str "no size")) (.cons (.cst (.str "no spot")) (.cons (.cst (.str "no way")) .nil))))) (.mth .index (.var 1) (.cons (.cst (.bl true)) .nil))))
 .nil)))⟩
def d_need_way : Def := ⟨["floor", "walker", "thing"], 3, (.cons (.ite (.not (.call "is_way" (.cons (.var 0) (.cons (.var 1) (.cons (.var 2) .nil)))))
 (.cons (.raise "NoWay" "this is no way of the walker over the floor")
 .nil)
 .nil)
 .nil)⟩
end K03
set_option maxHeartbeats 4000000
namespace K03
open PySem L2 Ci K71
structure Fl (rows : List Str) (w : Nat) : Prop where
 rok : Rok rows
 ne : 0 < rows.length
 w1 : 1 ≤ w
 rect : ∀ z ∈ rows, z.length = w
 dig : ∀ z ∈ rows, ∀ x ∈ z.cps.toList, x = 35 ∨ (48 ≤ x ∧ x ≤ 57)
theorem aI {i : Int} : bltOp .abs [.int i] = .ok (.int (if i < 0 then -i else i)) := id rfl
theorem mX {i j : Int} : bltOp .max2 [.int i, .int j] = .ok (.int (if j > i then j else i)) := id rfl
theorem cGt : cmpOp .gt = opGt := id rfl
theorem oGt {i j : Int} : opGt (.int i) (.int j) = .ok (.bl (decide (j < i))) := id rfl
theorem cIs : cmpOp .is = opIs := id rfl
theorem cIsn : cmpOp .isn = opIsn := id rfl
theorem str_dig {v : Int} (h0 : 0 ≤ v) (h1 : v < 10) : bltOp .str [.int v] = .ok (.str ⟨#[48 + v.toNat]⟩) := by
 have : v = 0 ∨ v = 1 ∨ v = 2 ∨ v = 3 ∨ v = 4 ∨ v = 5 ∨ v = 6 ∨ v = 7 ∨ v = 8 ∨ v = 9 := by omega
 rcases this with rfl | rfl | rfl | rfl | rfl | rfl | rfl | rfl | rfl | rfl <;> (show Res.ok (PV.str _) = _; congr 2)
theorem int_dig {x : Nat} (h0 : 48 ≤ x) (h1 : x ≤ 57) : bltOp .int [.str ⟨#[x]⟩] = .ok (.int ((x : Int) - 48)) := by
 have : x = 48 ∨ x = 49 ∨ x = 50 ∨ x = 51 ∨ x = 52 ∨ x = 53 ∨ x = 54 ∨ x = 55 ∨ x = 56 ∨ x = 57 := by omega
 have k : ∀ (y : Nat) (v : Int), PySem.intText? (⟨#[y]⟩ : Str) = some v → bltOp .int [.str ⟨#[y]⟩] = .ok (.int v) := fun y v e => by
  show (if (⟨#[y]⟩ : Str).length ≤ 640 then (Res.of (PySem.intText? (⟨#[y]⟩ : Str))).bind fun n => Res.ok (PV.int n) else .bad) = _
  rw [if_pos (show (⟨#[y]⟩ : Str).length ≤ 640 from (by show 1 ≤ 640; decide)), e]
  rfl
 rcases this with rfl | rfl | rfl | rfl | rfl | rfl | rfl | rfl | rfl | rfl <;> exact k _ _ (by decide +kernel)
theorem in_ok3 (F : Fns) (hp : PickOk F) (ns : List Int) (q a b sh tp : Int) (hq0 : 0 ≤ q) (hq6 : q ≤ 6) (h1 : 1 ≤ tp) (h2 : tp ≤ 10) (own : PV) (i n : Nat) (hn : n ≤ 6) (s10 s11 : Ci.Slot) :
 ∃ (z : Str) (t10 t11 : Ci.Slot), z.length = n ∧ (∀ x ∈ z.cps.toList, x = 35 ∨ (48 ≤ x ∧ x ≤ 57)) ∧ forL (fun x env => ((Tg.one 10).put x env).bind fun env' => exSs F fIn env') (rngP 0 n) [.val (scr ns), .val (.int 0), .val (.int q), .val (.int a), .val (.int b), .val (.int sh), .val (.int tp), .own own, .val (.int i), .val (.str ""), s10, s11] =
  .ok (.nx [.val (scr ns), .val (.int 0), .val (.int q), .val (.int a), .val (.int b), .val (.int sh), .val (.int tp), .own own, .val (.int i), .val (.str z), t10, t11]) := by
 obtain ⟨env', e, z, t10, t11, hz, hd, rfl⟩ := forL_list (body := fun x env => ((Tg.one 10).put x env).bind fun env' => exSs F fIn env') (P := fun j env => ∃ (z : Str) (t10 t11 : Ci.Slot), z.length = j ∧ (∀ x ∈ z.cps.toList, x = 35 ∨ (48 ≤ x ∧ x ≤ 57)) ∧ env = [.val (scr ns), .val (.int 0), .val (.int q), .val (.int a), .val (.int b), .val (.int sh), .val (.int tp), .own own, .val (.int i), .val (.str z), t10, t11]) (rngP 0 n) 0 [.val (scr ns), .val (.int 0), .val (.int q), .val (.int a), .val (.int b), .val (.int sh), .val (.int tp), .own own, .val (.int i), .val (.str ""), s10, s11] ⟨_, _, _, by decide +kernel, by decide +kernel, rfl⟩ (by
  intro j x env hx hq
  obtain ⟨hj, rfl⟩ := rng_at hx
  obtain ⟨z, t10, t11, hz, hd, rfl⟩ := hq
  obtain ⟨m, em, m0, m1⟩ := hp ns (0 + 4 + q * (i : Int) + (j : Int)) (12 * tp) (by
   have := Int.mul_nonneg hq0 (Int.natCast_nonneg i)
   omega) (by omega)
  have q1 : (small64 q || small64 (i : Int)) = true := by
   have : small64 q = true := by simp only [small64, Bool.and_eq_true, decide_eq_true_eq]; omega
   rw [this]; rfl
  have q2 : (small64 12 || small64 tp) = true := by rw [Bool.or_eq_true]; exact .inl (by decide)
  have q3 : (0 : Int) < 12 := by decide
  have q4 : (0 : Int) < 12 ∧ (12 : Int) < 1073741824 := by decide
  have ew := str_dig (v := m / 12) (by omega) (by omega)
  have hw1 : (("#" : Str)) = ⟨#[35]⟩ := by decide +kernel
  by_cases hm : m % 12 < sh
  ·refine ⟨[.val (scr ns), .val (.int 0), .val (.int q), .val (.int a), .val (.int b), .val (.int sh), .val (.int tp), .own own, .val (.int i), .val (.str (z ++ "#")), .val (.int j), .val (.int m)], ?_, _, _, _, ?_, ?_, rfl⟩
   ·have l : z.length + (("#" : Str)).length ≤ LIM := Nat.le_trans (show _ ≤ 8 by rw [hw1]; show z.length + 1 ≤ 8; omega) (by decide)
    simp only [fIn, runD, exSs, exS, evE, evEs, evO, evI, capt, tyOp, isTy, List.replicate, Nat.reduceAdd, Nat.reduceSub, reduceIte, ite_true, ite_false, J, q1, q2, q3, q4, em, hm, decide_true, l, and_self]
   ·rw [Str.length_append, hw1]; show z.length + 1 = _; omega
   ·rw [hw1]
    show ∀ x ∈ (z.cps ++ #[35]).toList, _
    intro x hx
    simp only [Array.toList_append, List.mem_append, List.mem_singleton] at hx
    rcases hx with hx | hx
    ·exact hd x hx
    ·exact .inl hx
  ·refine ⟨[.val (scr ns), .val (.int 0), .val (.int q), .val (.int a), .val (.int b), .val (.int sh), .val (.int tp), .own own, .val (.int i), .val (.str (z ++ ⟨#[48 + (m / 12).toNat]⟩)), .val (.int j), .val (.int m)], ?_, _, _, _, ?_, ?_, rfl⟩
   ·have l : z.length + (⟨#[48 + (m / 12).toNat]⟩ : Str).length ≤ LIM := Nat.le_trans (show z.length + 1 ≤ 8 by omega) (by decide)
    simp only [fIn, runD, exSs, exS, evE, evEs, evO, evI, capt, tyOp, isTy, List.replicate, Nat.reduceAdd, Nat.reduceSub, reduceIte, ite_true, ite_false, J, q1, q2, q3, q4, em, hm, decide_false, l, and_self, ew]
   ·rw [Str.length_append]; show z.length + 1 = _; omega
   ·show ∀ x ∈ (z.cps ++ #[48 + (m / 12).toNat]).toList, _
    intro x hx
    simp only [Array.toList_append, List.mem_append, List.mem_singleton] at hx
    rcases hx with hx | hx
    ·exact hd x hx
    ·exact .inr (by omega))
 refine ⟨z, t10, t11, ?_, hd, e⟩
 simpa [rngP] using hz
theorem floor_ok3 (F : Fns) (hp : PickOk F) (ns : List Int) (q : Int) (hq1 : 1 ≤ q) (hq6 : q ≤ 6) : ∃ rows w, Fl rows w ∧ runD F d__law_floor [scr ns, .int 0, .int q] = .ok (fl rows) := by
 obtain ⟨a, ea, a0, a6⟩ := hp ns 0 q (by decide) (by omega)
 obtain ⟨b, eb, b0, b6⟩ := hp ns (0 + 1) q (by decide) (by omega)
 obtain ⟨c, ec, c0, c4⟩ := hp ns (0 + 2) 4 (by decide) (by decide)
 obtain ⟨d, ed, d0, d4⟩ := hp ns (0 + 3) 4 (by decide) (by decide)
 obtain ⟨sh, es, hs⟩ := four_ok (a := 0) (b := 2) (c := 4) (d := 6) c0 c4
 obtain ⟨tp, et, ht⟩ := four_ok (a := 1) (b := 2) (c := 3) (d := 10) d0 d4
 have t1 : 1 ≤ tp := by omega
 have t2 : tp ≤ 10 := by omega
 have sa : small62 (1 + a) = true := by simp only [small62, Bool.and_eq_true, decide_eq_true_eq]; omega
 have sb : small62 (1 + b) = true := by simp only [small62, Bool.and_eq_true, decide_eq_true_eq]; omega
 obtain ⟨env', e, rows, s8, s9, s10, s11, hl, hr, hd, rfl⟩ := forL_list (body := fun x env => ((Tg.one 8).put x env).bind fun env' => exSs F fOut env')
  (P := fun i env => ∃ (rows : List Str) (s8 s9 s10 s11 : Ci.Slot), rows.length = i ∧ (∀ z ∈ rows, z.length = (1 + b).toNat) ∧ (∀ z ∈ rows, ∀ x ∈ z.cps.toList, x = 35 ∨ (48 ≤ x ∧ x ≤ 57)) ∧ env = [.val (scr ns), .val (.int 0), .val (.int q), .val (.int (1 + a)), .val (.int (1 + b)), .val (.int sh), .val (.int tp), .own (.lst (rows.map .str)), s8, s9, s10, s11])
  (rngP 0 (1 + a).toNat) 0 [.val (scr ns), .val (.int 0), .val (.int q), .val (.int (1 + a)), .val (.int (1 + b)), .val (.int sh), .val (.int tp), .own (.lst []), .no, .no, .no, .no] ⟨[], _, _, _, _, rfl, (fun z hz => by cases hz), (fun z hz => by cases hz), rfl⟩ (by
  intro i x env hx hq
  obtain ⟨hi, rfl⟩ := rng_at hx
  obtain ⟨rows, s8, s9, s10, s11, hl, hr, hd, rfl⟩ := hq
  obtain ⟨z, t10, t11, hz, hzd, e⟩ := in_ok3 F hp ns q (1 + a) (1 + b) sh tp (by omega) hq6 t1 t2 (.lst (rows.map .str)) i (1 + b).toNat (by omega) s10 s11
  have l : (rows.map PV.str).length < LIM := Nat.lt_of_le_of_lt (m := 6) (by simp only [List.length_map]; omega) (by decide)
  refine ⟨[.val (scr ns), .val (.int 0), .val (.int q), .val (.int (1 + a)), .val (.int (1 + b)), .val (.int sh), .val (.int tp), .own (.lst ((rows ++ [z]).map .str)), .val (.int i), .val (.str z), t10, t11], ?_, rows ++ [z], _, _, _, _, by simp; omega, ?_, ?_, rfl⟩
  ·have e' := e
   simp only [fIn, runD, exSs, exS, evE, evEs, evO, evI, capt, tyOp, isTy, List.replicate, Nat.reduceAdd, Nat.reduceSub, reduceIte, ite_true, ite_false, J] at e'
   simp only [List.length_map] at l
   simp only [fOut, fIn, runD, exSs, exS, evE, evEs, evO, evI, capt, tyOp, isTy, List.replicate, Nat.reduceAdd, Nat.reduceSub, reduceIte, ite_true, ite_false, J, sb, e', List.length_map, l, List.map_append]
  ·intro y hy
   simp only [List.mem_append, List.mem_singleton] at hy
   rcases hy with hy | rfl
   ·exact hr y hy
   ·exact hz
  ·intro y hy
   simp only [List.mem_append, List.mem_singleton] at hy
   rcases hy with hy | rfl
   ·exact hd y hy
   ·exact hzd)
 have hl' : rows.length = (1 + a).toNat := by simpa [rngP] using hl
 refine ⟨rows, (1 + b).toNat, ⟨⟨by omega, fun z hz => by rw [hr z hz]; omega⟩, by omega, by omega, hr, hd⟩, ?_⟩
 simp only [fOut, fIn, runD, exSs, exS, evE, evEs, evO, evI, capt, tyOp, isTy, List.replicate, Nat.reduceAdd, Nat.reduceSub, reduceIte, ite_true, ite_false, J] at e
 simp only [d__law_floor, K71.d__law_floor, runD, exSs, exS, evE, evEs, evO, evI, capt, tyOp, isTy, List.replicate, Nat.reduceAdd, Nat.reduceSub, reduceIte, ite_true, ite_false, J, ea, eb, ec, ed, es, et, sa, e]
def hgt (rows : List Str) (r c : Int) : Int := match cd rows r.toNat c.toNat with
 | some x => (x : Int) - 48
 | none => 0
theorem opn_cd {rows : List Str} {r c : Int} (h : opn rows r c = true) : ∃ (i j x : Nat), r = i ∧ c = j ∧ cd rows i j = some x ∧ x ≠ 35 := by
 obtain ⟨h0, h1, h2⟩ := opn_iff.1 h
 obtain ⟨i, rfl⟩ := Int.eq_ofNat_of_zero_le h0
 obtain ⟨j, rfl⟩ := Int.eq_ofNat_of_zero_le h1
 simp only [Int.toNat_natCast, opN] at h2
 cases hc : cd rows i j with
 | none => rw [hc] at h2; cases h2
 | some x =>
  rw [hc] at h2
  exact ⟨i, j, x, rfl, rfl, hc, by simpa using h2⟩
theorem cd_dig {rows : List Str} {w : Nat} (L : Fl rows w) {i j x : Nat} (h : cd rows i j = some x) : x = 35 ∨ (48 ≤ x ∧ x ≤ 57) := by
 unfold cd at h
 cases hz : rows[i]? with
 | none => rw [hz] at h; cases h
 | some z =>
  rw [hz] at h
  exact L.dig z (List.mem_of_getElem? hz) x (List.mem_of_getElem? h)
theorem hgt_at {rows : List Str} {w : Nat} (L : Fl rows w) {r c : Int} (h : opn rows r c = true) : ∃ z x, subOp (fl rows) (.int r) = .ok (.str z) ∧ subOp (.str z) (.int c) = .ok (.str ⟨#[x]⟩) ∧ bltOp .int [.str ⟨#[x]⟩] = .ok (.int (hgt rows r c)) ∧ 0 ≤ hgt rows r c ∧ hgt rows r c ≤ 9 := by
 obtain ⟨i, j, x, rfl, rfl, hc, hx⟩ := opn_cd h
 obtain ⟨z, _, e1, e2⟩ := cd_at L.rok hc
 have hd := (cd_dig L hc).resolve_left hx
 have hh : hgt rows i j = (x : Int) - 48 := by simp only [hgt, Int.toNat_natCast, hc]
 refine ⟨z, x, e1, e2, ?_, ?_⟩
 ·rw [hh]; exact int_dig hd.1 hd.2
 ·rw [hh]; omega
def stepC (rows : List Str) (sl : Bool) (cl pr : Int) (r c r' c' : Int) : Option Int :=
 if (r = r' ∧ c = c') ∨ 1 < r - r' ∨ 1 < r' - r ∨ 1 < c - c' ∨ 1 < c' - c then none
 else if (r ≠ r' ∧ c ≠ c') ∧ ¬ (sl = true ∧ opn rows r c' = true ∧ opn rows r' c = true) then none
 else if cl < hgt rows r' c' - hgt rows r c ∨ cl < hgt rows r c - hgt rows r' c' then none
 else some ((if r ≠ r' ∧ c ≠ c' then 3 else 2) + pr * (if hgt rows r' c' - hgt rows r c > 0 then hgt rows r' c' - hgt rows r c else 0))
def oP : Option Int → PV
 | none => .non
 | some i => .int i
abbrev wk (sl : Bool) (cl pr : Int) : PV := .tup [.bl sl, .int cl, .int pr]
end K03
set_option maxHeartbeats 4000000
namespace K03
open PySem L2 Ci K71
theorem sp0 {r c : Int} : subOp (sp r c) (.int 0) = .ok (.int r) := id rfl
theorem sp1 {r c : Int} : subOp (sp r c) (.int 1) = .ok (.int c) := id rfl
theorem wk0 {sl : Bool} {cl pr : Int} : subOp (wk sl cl pr) (.int 0) = .ok (.bl sl) := id rfl
theorem wk1 {sl : Bool} {cl pr : Int} : subOp (wk sl cl pr) (.int 1) = .ok (.int cl) := id rfl
theorem wk2 {sl : Bool} {cl pr : Int} : subOp (wk sl cl pr) (.int 2) = .ok (.int pr) := id rfl
theorem nI {i j : Int} : opNe (.int i) (.int j) = .ok (.bl (!(i == j))) := id rfl
theorem eI {i j : Int} : opEq (.int i) (.int j) = .ok (.bl (i == j)) := id rfl
theorem nS {r c r' c' : Int} : opNe (sp r c) (sp r' c') = .ok (.bl (!((r == r') && ((c == c') && true)))) := id rfl
theorem eS {r c r' c' : Int} : opEq (sp r c) (sp r' c') = .ok (.bl ((r == r') && ((c == c') && true))) := id rfl
def J2 := And.intro @sp0 (And.intro @sp1 (And.intro @wk0 (And.intro @wk1 (And.intro @wk2 (And.intro @aI (And.intro @mX (And.intro @cGt (And.intro @oGt (And.intro @nI (And.intro @eI (And.intro @nS (And.intro @eS (And.intro @cIs (And.intro @cIsn (And.intro @itL (And.intro @itT (@itS)))))))))))))))))
def far (r c r' c' : Int) : Prop := (r = r' ∧ c = c') ∨ 1 < r - r' ∨ 1 < r' - r ∨ 1 < c - c' ∨ 1 < c' - c
instance (r c r' c' : Int) : Decidable (far r c r' c') := by unfold far; infer_instance
theorem beside_ok (F : Fns) (r c r' c' : Int) : runD F d_are_beside [sp r c, sp r' c'] = .ok (.bl (!decide (far r c r' c'))) := by
 simp only [d_are_beside, runD, exSs, exS, evE, evEs, evO, evI, capt, tyOp, isTy, List.replicate, Nat.reduceAdd, Nat.reduceSub, reduceIte, ite_true, ite_false, J, sp0, sp1, aI, nS]
 have key : ∀ (a b d : Bool), (Res.ok (PV.bl a)).bind (fun x => asB x fun t => if t then (Res.ok (PV.bl b)).bind (fun x => asB x fun t => if t then Res.ok (PV.bl d) else Res.ok (PV.bl false)) else Res.ok (PV.bl false)) = Res.ok (PV.bl (a && (b && d))) := by
  intro a b d
  cases a <;> cases b <;> cases d <;> rfl
 by_cases h1 : r = r' ∧ c = c'
 ·obtain ⟨rfl, rfl⟩ := h1
  have : far r c r c := .inl ⟨rfl, rfl⟩
  simp [runD, exSs, exS, evE, evEs, evO, evI, capt, tyOp, isTy, List.replicate, Nat.reduceAdd, Nat.reduceSub, reduceIte, ite_true, ite_false, J, this]
 ·have b1 : (!((r == r') && ((c == c') && true))) = true := by
   cases hh : ((r == r') && ((c == c') && true)) with
   | false => rfl
   | true => exact absurd (by simpa using hh) h1
  simp only [b1, runD, exSs, exS, evE, evEs, evO, evI, capt, tyOp, isTy, List.replicate, Nat.reduceAdd, Nat.reduceSub, reduceIte, ite_true, ite_false, J]
  by_cases h2 : (if r - r' < 0 then -(r - r') else r - r') ≤ 1
  ·by_cases h3 : (if c - c' < 0 then -(c - c') else c - c') ≤ 1
   ·have : ¬ far r c r' c' := by
     rintro (h | h | h | h | h)
     ·exact h1 h
     all_goals (split at h2 <;> split at h3 <;> omega)
    simp only [h2, h3, this, decide_true, decide_false, runD, exSs, exS, evE, evEs, evO, evI, capt, tyOp, isTy, List.replicate, Nat.reduceAdd, Nat.reduceSub, reduceIte, ite_true, ite_false, J]
   ·have : far r c r' c' := by
     unfold far
     split at h3 <;> omega
    simp only [h2, h3, this, decide_true, decide_false, runD, exSs, exS, evE, evEs, evO, evI, capt, tyOp, isTy, List.replicate, Nat.reduceAdd, Nat.reduceSub, reduceIte, ite_true, ite_false, J]
  ·have : far r c r' c' := by
    unfold far
    split at h2 <;> omega
   simp only [h2, this, decide_true, decide_false, runD, exSs, exS, evE, evEs, evO, evI, capt, tyOp, isTy, List.replicate, Nat.reduceAdd, Nat.reduceSub, reduceIte, ite_true, ite_false, J]
def OpenOk (F : Fns) : Prop := ∀ rows, Rok rows → ∀ r c, F "is_open" [fl rows, sp r c] = .ok (.bl (opn rows r c))
theorem height_ok (F : Fns) (hn : ∀ rows, Rok rows → ∀ r c, opn rows r c = true → F "need_open" [fl rows, sp r c] = .ok .non) {rows : List Str} {w : Nat} (L : Fl rows w) {r c : Int} (h : opn rows r c = true) : runD F d_height_at [fl rows, sp r c] = .ok (.int (hgt rows r c)) := by
 obtain ⟨z, x, e1, e2, e3, _⟩ := hgt_at L h
 simp only [d_height_at, runD, exSs, exS, evE, evEs, evO, evI, capt, tyOp, isTy, List.replicate, Nat.reduceAdd, Nat.reduceSub, reduceIte, ite_true, ite_false, J, hn rows L.rok r c h, sp0, sp1, e1, e2, e3]
theorem corners_ok (F : Fns) (ho : OpenOk F) {rows : List Str} (R : Rok rows) (r c r' c' : Int) : runD F d_has_open_corners [fl rows, sp r c, sp r' c'] = .ok (.bl (opn rows r c' && opn rows r' c)) := by
 simp only [d_has_open_corners, runD, exSs, exS, evE, evEs, evO, evI, capt, tyOp, isTy, List.replicate, Nat.reduceAdd, Nat.reduceSub, reduceIte, ite_true, ite_false, J, sp0, sp1, ho rows R]
 cases opn rows r c' <;> simp only [runD, exSs, exS, evE, evEs, evO, evI, capt, tyOp, isTy, List.replicate, Nat.reduceAdd, Nat.reduceSub, reduceIte, ite_true, ite_false, J, Bool.false_and, Bool.true_and]
theorem mul_small {i j : Int} (h0 : 0 ≤ i) (h1 : i < 4) : (small64 i || small64 j) = true := by
 have : small64 i = true := by simp only [small64, Bool.and_eq_true, decide_eq_true_eq]; omega
 rw [this]; rfl
structure Wk (cl pr : Int) : Prop where
 c0 : 0 ≤ cl
 p0 : 0 ≤ pr
 p4 : pr < 4
theorem step_ok (F : Fns) (hb : ∀ r c r' c', F "are_beside" [sp r c, sp r' c'] = .ok (.bl (!decide (far r c r' c')))) (hk : ∀ rows, Rok rows → ∀ r c r' c', F "has_open_corners" [fl rows, sp r c, sp r' c'] = .ok (.bl (opn rows r c' && opn rows r' c)))
 (hh : ∀ rows w, Fl rows w → ∀ r c, opn rows r c = true → F "height_at" [fl rows, sp r c] = .ok (.int (hgt rows r c))) {rows : List Str} {w : Nat} (L : Fl rows w) {sl : Bool} {cl pr : Int} (V : Wk cl pr) {r c r' c' : Int} (h : opn rows r c = true) (h' : opn rows r' c' = true) :
 runD F d_step_cost [fl rows, wk sl cl pr, sp r c, sp r' c'] = .ok (oP (stepC rows sl cl pr r c r' c')) := by
 have e1 := hh rows w L r c h
 have e2 := hh rows w L r' c' h'
 have e3 := hk rows L.rok r c r' c'
 have e4 := hb r c r' c'
 by_cases h1 : far r c r' c'
 ·have : stepC rows sl cl pr r c r' c' = none := if_pos h1
  simp only [d_step_cost, runD, exSs, exS, evE, evEs, evO, evI, capt, tyOp, isTy, List.replicate, Nat.reduceAdd, Nat.reduceSub, reduceIte, ite_true, ite_false, J, J2, e4, h1, decide_true, this, oP]
 ·have q1 : stepC rows sl cl pr r c r' c' = _ := if_neg h1
  rw [q1]
  have ms := fun j => mul_small (j := j) V.p0 V.p4
  have slant : ∀ s1 s2 : Bool, (!(r == r')) = s1 → (!(c == c')) = s2 → (s1 && s2) = decide (r ≠ r' ∧ c ≠ c') := by
   rintro s1 s2 rfl rfl
   rw [Bool.eq_iff_iff]
   simp
  have mx : (if (0 : Int) > hgt rows r' c' - hgt rows r c then 0 else hgt rows r' c' - hgt rows r c) = (if hgt rows r' c' - hgt rows r c > 0 then hgt rows r' c' - hgt rows r c else 0) := by
   split <;> split <;> omega
  by_cases hblk : (r ≠ r' ∧ c ≠ c') ∧ ¬ (sl = true ∧ opn rows r c' = true ∧ opn rows r' c = true)
  ·rw [if_pos hblk]
   have hs1 : (!(r == r')) = true := by simpa using hblk.1.1
   have hs2 : (!(c == c')) = true := by simpa using hblk.1.2
   cases sl with
   | false => simp only [d_step_cost, runD, exSs, exS, evE, evEs, evO, evI, capt, tyOp, isTy, List.replicate, Nat.reduceAdd, Nat.reduceSub, reduceIte, ite_true, ite_false, J, J2, e4, e3, h1, decide_false, hs1, hs2, oP]
   | true =>
    have : (opn rows r c' && opn rows r' c) = false := by
     cases hx : (opn rows r c' && opn rows r' c) with
     | false => rfl
     | true => exact absurd ⟨rfl, by simpa using hx⟩ hblk.2
    simp only [d_step_cost, runD, exSs, exS, evE, evEs, evO, evI, capt, tyOp, isTy, List.replicate, Nat.reduceAdd, Nat.reduceSub, reduceIte, ite_true, ite_false, J, J2, e4, e3, h1, decide_false, hs1, hs2, oP, this]
  ·rw [if_neg hblk]
   by_cases n3 : r ≠ r' ∧ c ≠ c'
   ·have hs1 : (!(r == r')) = true := by simpa using n3.1
    have hs2 : (!(c == c')) = true := by simpa using n3.2
    obtain ⟨rfl, ha, hb'⟩ : sl = true ∧ opn rows r c' = true ∧ opn rows r' c = true := Classical.byContradiction fun z => hblk ⟨n3, z⟩
    by_cases hq : cl < (if hgt rows r' c' - hgt rows r c < 0 then -(hgt rows r' c' - hgt rows r c) else hgt rows r' c' - hgt rows r c)
    ·have hz : cl < hgt rows r' c' - hgt rows r c ∨ cl < hgt rows r c - hgt rows r' c' := by split at hq <;> omega
     simp only [d_step_cost, runD, exSs, exS, evE, evEs, evO, evI, capt, tyOp, isTy, List.replicate, Nat.reduceAdd, Nat.reduceSub, reduceIte, ite_true, ite_false, J, J2, e4, e3, e1, e2, h1, decide_false, hs1, hs2, oP, hq, decide_true, if_pos hz, ha, hb', Bool.and_self]
    ·have hz : ¬ (cl < hgt rows r' c' - hgt rows r c ∨ cl < hgt rows r c - hgt rows r' c') := by split at hq <;> omega
     simp only [d_step_cost, runD, exSs, exS, evE, evEs, evO, evI, capt, tyOp, isTy, List.replicate, Nat.reduceAdd, Nat.reduceSub, reduceIte, ite_true, ite_false, J, J2, e4, e3, e1, e2, h1, decide_false, hs1, hs2, oP, hq, if_neg hz, ha, hb', Bool.and_self, ms, if_pos n3, mx]
   ·rw [if_neg n3]
    cases hs1 : (!(r == r')) with
    | false =>
     by_cases hq : cl < (if hgt rows r' c' - hgt rows r c < 0 then -(hgt rows r' c' - hgt rows r c) else hgt rows r' c' - hgt rows r c)
     ·have hz : cl < hgt rows r' c' - hgt rows r c ∨ cl < hgt rows r c - hgt rows r' c' := by split at hq <;> omega
      simp only [d_step_cost, runD, exSs, exS, evE, evEs, evO, evI, capt, tyOp, isTy, List.replicate, Nat.reduceAdd, Nat.reduceSub, reduceIte, ite_true, ite_false, J, J2, e4, e3, e1, e2, h1, decide_false, hs1, oP, hq, decide_true, if_pos hz]
     ·have hz : ¬ (cl < hgt rows r' c' - hgt rows r c ∨ cl < hgt rows r c - hgt rows r' c') := by split at hq <;> omega
      simp only [d_step_cost, runD, exSs, exS, evE, evEs, evO, evI, capt, tyOp, isTy, List.replicate, Nat.reduceAdd, Nat.reduceSub, reduceIte, ite_true, ite_false, J, J2, e4, e3, e1, e2, h1, decide_false, hs1, oP, hq, if_neg hz, ms, mx]
    | true =>
     have hs2 : (!(c == c')) = false := by
      have := slant _ _ hs1 rfl
      rw [decide_eq_false n3] at this
      simpa using this
     by_cases hq : cl < (if hgt rows r' c' - hgt rows r c < 0 then -(hgt rows r' c' - hgt rows r c) else hgt rows r' c' - hgt rows r c)
     ·have hz : cl < hgt rows r' c' - hgt rows r c ∨ cl < hgt rows r c - hgt rows r' c' := by split at hq <;> omega
      simp only [d_step_cost, runD, exSs, exS, evE, evEs, evO, evI, capt, tyOp, isTy, List.replicate, Nat.reduceAdd, Nat.reduceSub, reduceIte, ite_true, ite_false, J, J2, e4, e3, e1, e2, h1, decide_false, hs1, hs2, oP, hq, decide_true, if_pos hz]
     ·have hz : ¬ (cl < hgt rows r' c' - hgt rows r c ∨ cl < hgt rows r c - hgt rows r' c') := by split at hq <;> omega
      simp only [d_step_cost, runD, exSs, exS, evE, evEs, evO, evI, capt, tyOp, isTy, List.replicate, Nat.reduceAdd, Nat.reduceSub, reduceIte, ite_true, ite_false, J, J2, e4, e3, e1, e2, h1, decide_false, hs1, hs2, oP, hq, if_neg hz, ms, mx]
theorem in_cd {rows : List Str} {w : Nat} (L : Fl rows w) {i j : Nat} (hi : i < rows.length) (hj : j < w) : ∃ x, cd rows i j = some x := by
 have hz : rows[i]? = some rows[i] := List.getElem?_eq_getElem hi
 have hl := L.rect _ (List.mem_of_getElem? hz)
 refine ⟨(rows[i]).cps.toList[j]'(by simp only [Array.length_toList]; rw [← hl] at hj; exact hj), ?_⟩
 unfold cd
 rw [hz]
 exact List.getElem?_eq_getElem _
theorem opn_in {rows : List Str} {w : Nat} (L : Fl rows w) {r c : Int} (h : opn rows r c = true) : 0 ≤ r ∧ r < rows.length ∧ 0 ≤ c ∧ c < w := by
 obtain ⟨i, j, x, rfl, rfl, hc, _⟩ := opn_cd h
 unfold cd at hc
 cases hz : rows[i]? with
 | none => rw [hz] at hc; cases hc
 | some z =>
  rw [hz] at hc
  have h1 := (List.getElem?_eq_some_iff.1 hz).1
  have h2 := (List.getElem?_eq_some_iff.1 hc).1
  have hl := L.rect _ (List.mem_of_getElem? hz)
  simp only [Array.length_toList] at h2
  have : z.cps.size = z.length := rfl
  omega
theorem cell_at {rows : List Str} {w : Nat} (L : Fl rows w) {r c : Int} (h0 : 0 ≤ r) (h1 : r < rows.length) (h2 : 0 ≤ c) (h3 : c < w) : ∃ z, subOp (fl rows) (.int r) = .ok (.str z) ∧ ∃ x : Nat, subOp (.str z) (.int c) = .ok (.str ⟨#[x]⟩) ∧ (x != 35) = opn rows r c := by
 obtain ⟨i, rfl⟩ := Int.eq_ofNat_of_zero_le h0
 obtain ⟨j, rfl⟩ := Int.eq_ofNat_of_zero_le h2
 obtain ⟨x, hx⟩ := in_cd L (i := i) (j := j) (by omega) (by omega)
 obtain ⟨z, _, e1, e2⟩ := cd_at L.rok hx
 exact ⟨z, e1, x, e2, by simp [opn, opN, hx]⟩
theorem sgn_eq (x : Nat) : opEq (.str ⟨#[x]⟩) (.str "#") = .ok (.bl (!(x != 35))) := by
 have : (("#" : Str)) = ⟨#[35]⟩ := by decide +kernel
 rw [this]
 show Res.ok (PV.bl ((⟨#[x]⟩ : Str) == ⟨#[35]⟩)) = _
 congr 2
 rw [bne, Bool.not_not, Bool.eq_iff_iff]
 simp
end K03
set_option maxHeartbeats 4000000
namespace K03
open PySem L2 Ci K71
theorem lawcost_ok (F : Fns) {rows : List Str} {w : Nat} (L : Fl rows w) {sl : Bool} {cl pr : Int} (V : Wk cl pr) {r c r' c' : Int} (h : opn rows r c = true) (h' : opn rows r' c' = true) (hf : ¬ far r c r' c') :
 runD F d__law_cost [fl rows, wk sl cl pr, sp r c, sp r' c'] = .ok (oP (stepC rows sl cl pr r c r' c')) := by
 obtain ⟨z1, x1, a1, a2, a3, _⟩ := hgt_at L h
 obtain ⟨z2, x2, b1, b2, b3, _⟩ := hgt_at L h'
 have i1 := opn_in L h
 have i2 := opn_in L h'
 obtain ⟨z3, c1, x3, c2, c3⟩ := cell_at L (r := r) (c := c') i1.1 i1.2.1 i2.2.2.1 i2.2.2.2
 obtain ⟨z4, d1, x4, d2, d3⟩ := cell_at L (r := r') (c := c) i2.1 i2.2.1 i1.2.2.1 i1.2.2.2
 cases a1.symm.trans c1
 cases b1.symm.trans d1
 have ms := fun j => mul_small (j := j) V.p0 V.p4
 have q1 : stepC rows sl cl pr r c r' c' = _ := if_neg hf
 rw [q1]
 by_cases hz : cl < hgt rows r' c' - hgt rows r c ∨ cl < hgt rows r c - hgt rows r' c'
 ·have : (if (r ≠ r' ∧ c ≠ c') ∧ ¬ (sl = true ∧ opn rows r c' = true ∧ opn rows r' c = true) then none else if cl < hgt rows r' c' - hgt rows r c ∨ cl < hgt rows r c - hgt rows r' c' then none else some ((if r ≠ r' ∧ c ≠ c' then 3 else 2) + pr * (if hgt rows r' c' - hgt rows r c > 0 then hgt rows r' c' - hgt rows r c else 0))) = (none : Option Int) := by
   rw [if_pos hz]
   split <;> rfl
  rw [this]
  by_cases g1 : cl < hgt rows r' c' - hgt rows r c
  ·simp only [d__law_cost, runD, exSs, exS, evE, evEs, evO, evI, capt, tyOp, isTy, List.replicate, Nat.reduceAdd, Nat.reduceSub, reduceIte, ite_true, ite_false, J, J2, a1, a2, a3, b1, b2, b3, g1, decide_true, oP]
  ·have g2 : cl < 0 - (hgt rows r' c' - hgt rows r c) := by omega
   simp only [d__law_cost, runD, exSs, exS, evE, evEs, evO, evI, capt, tyOp, isTy, List.replicate, Nat.reduceAdd, Nat.reduceSub, reduceIte, ite_true, ite_false, J, J2, a1, a2, a3, b1, b2, b3, g1, g2, decide_true, decide_false, oP]
 ·have g1 : ¬ cl < hgt rows r' c' - hgt rows r c := fun z => hz (.inl z)
  have g2 : ¬ cl < 0 - (hgt rows r' c' - hgt rows r c) := fun z => hz (.inr (by omega))
  rw [if_neg hz]
  have fin : ∀ q : Int, (if hgt rows r' c' - hgt rows r c > 0 then pr * (hgt rows r' c' - hgt rows r c) else 0) = q → pr * (if hgt rows r' c' - hgt rows r c > 0 then hgt rows r' c' - hgt rows r c else 0) = q := by
   rintro q rfl
   split
   ·rfl
   ·rw [Int.mul_zero]
  by_cases n3 : r ≠ r' ∧ c ≠ c'
  ·have hs1 : (!(r == r')) = true := by simpa using n3.1
   have hs2 : (!(c == c')) = true := by simpa using n3.2
   by_cases hb : sl = true ∧ opn rows r c' = true ∧ opn rows r' c = true
   ·rw [if_neg (fun z => z.2 hb), if_pos n3]
    obtain ⟨rfl, o1, o2⟩ := hb
    rw [o1] at c3
    rw [o2] at d3
    by_cases hp : 0 < hgt rows r' c' - hgt rows r c
    ·rw [if_pos hp]
     simp only [d__law_cost, runD, exSs, exS, evE, evEs, evO, evI, capt, tyOp, isTy, List.replicate, Nat.reduceAdd, Nat.reduceSub, reduceIte, ite_true, ite_false, J, J2, a1, a2, a3, b1, b2, b3, c2, d2, c3, d3, sgn_eq, g1, g2, hs1, hs2, decide_false, decide_true, oP, hp, ms]
    ·rw [if_neg hp, Int.mul_zero]
     simp only [d__law_cost, runD, exSs, exS, evE, evEs, evO, evI, capt, tyOp, isTy, List.replicate, Nat.reduceAdd, Nat.reduceSub, reduceIte, ite_true, ite_false, J, J2, a1, a2, a3, b1, b2, b3, c2, d2, c3, d3, sgn_eq, g1, g2, hs1, hs2, decide_false, decide_true, oP, hp, ms]
   ·rw [if_pos ⟨n3, hb⟩]
    cases sl with
    | false => simp only [d__law_cost, runD, exSs, exS, evE, evEs, evO, evI, capt, tyOp, isTy, List.replicate, Nat.reduceAdd, Nat.reduceSub, reduceIte, ite_true, ite_false, J, J2, a1, a2, a3, b1, b2, b3, c2, d2, sgn_eq, g1, g2, hs1, hs2, decide_false, decide_true, oP]
    | true =>
     cases o1 : opn rows r c' with
     | false =>
      rw [o1] at c3
      simp only [d__law_cost, runD, exSs, exS, evE, evEs, evO, evI, capt, tyOp, isTy, List.replicate, Nat.reduceAdd, Nat.reduceSub, reduceIte, ite_true, ite_false, J, J2, a1, a2, a3, b1, b2, b3, c2, d2, c3, sgn_eq, g1, g2, hs1, hs2, decide_false, decide_true, oP]
     | true =>
      have o2 : opn rows r' c = false := by
       cases o2 : opn rows r' c with
       | false => rfl
       | true => exact absurd ⟨rfl, o1, o2⟩ hb
      rw [o1] at c3
      rw [o2] at d3
      simp only [d__law_cost, runD, exSs, exS, evE, evEs, evO, evI, capt, tyOp, isTy, List.replicate, Nat.reduceAdd, Nat.reduceSub, reduceIte, ite_true, ite_false, J, J2, a1, a2, a3, b1, b2, b3, c2, d2, c3, d3, sgn_eq, g1, g2, hs1, hs2, decide_false, decide_true, oP]
  ·rw [if_neg (fun z => n3 z.1), if_neg n3]
   cases hs1 : (!(r == r')) with
   | false =>
    by_cases hp : 0 < hgt rows r' c' - hgt rows r c
    ·rw [if_pos hp]
     simp only [d__law_cost, runD, exSs, exS, evE, evEs, evO, evI, capt, tyOp, isTy, List.replicate, Nat.reduceAdd, Nat.reduceSub, reduceIte, ite_true, ite_false, J, J2, a1, a2, a3, b1, b2, b3, g1, g2, hs1, decide_false, decide_true, oP, hp, ms]
    ·rw [if_neg hp, Int.mul_zero]
     simp only [d__law_cost, runD, exSs, exS, evE, evEs, evO, evI, capt, tyOp, isTy, List.replicate, Nat.reduceAdd, Nat.reduceSub, reduceIte, ite_true, ite_false, J, J2, a1, a2, a3, b1, b2, b3, g1, g2, hs1, decide_false, decide_true, oP, hp, ms]
   | true =>
    have hs2 : (!(c == c')) = false := by
     cases hs2 : (!(c == c')) with
     | false => rfl
     | true => exact absurd ⟨by simpa using hs1, by simpa using hs2⟩ n3
    by_cases hp : 0 < hgt rows r' c' - hgt rows r c
    ·rw [if_pos hp]
     simp only [d__law_cost, runD, exSs, exS, evE, evEs, evO, evI, capt, tyOp, isTy, List.replicate, Nat.reduceAdd, Nat.reduceSub, reduceIte, ite_true, ite_false, J, J2, a1, a2, a3, b1, b2, b3, g1, g2, hs1, hs2, decide_false, decide_true, oP, hp, ms]
    ·rw [if_neg hp, Int.mul_zero]
     simp only [d__law_cost, runD, exSs, exS, evE, evEs, evO, evI, capt, tyOp, isTy, List.replicate, Nat.reduceAdd, Nat.reduceSub, reduceIte, ite_true, ite_false, J, J2, a1, a2, a3, b1, b2, b3, g1, g2, hs1, hs2, decide_false, decide_true, oP, hp, ms]
abbrev tP (t : Int × Int × Int) : PV := .tup [sp t.1 t.2.1, .int t.2.2]
def found (T : List (Int × Int × Int)) (r' c' : Int) : List Int := (T.filter fun t => decide (t.1 = r') && decide (t.2.1 = c')).map (·.2.2)
def LawCostOk (F : Fns) : Prop := ∀ rows w, Fl rows w → ∀ sl cl pr, Wk cl pr → ∀ r c r' c', opn rows r c = true → opn rows r' c' = true → ¬ far r c r' c' → F "_law_cost" [fl rows, wk sl cl pr, sp r c, sp r' c'] = .ok (oP (stepC rows sl cl pr r c r' c'))
def StepsOk (F : Fns) : Prop := ∀ rows w, Fl rows w → ∀ sl cl pr, Wk cl pr → ∀ r c, opn rows r c = true → ∃ T, F "_law_steps" [fl rows, wk sl cl pr, sp r c] = .ok (.lst (T.map tP)) ∧ T.length ≤ 9 ∧ (∀ t ∈ T, opn rows t.1 t.2.1 = true ∧ stepC rows sl cl pr r c t.1 t.2.1 = some t.2.2) ∧ ∀ r' c', opn rows r' c' = true → found T r' c' = (stepC rows sl cl pr r c r' c').toList
def kBody : Ss := (.cons (.set 5 (.bin .add (.bin .sub (.sub (.var 2) (.cst (.int 0))) (.cst (.int 1))) (.bin .fdiv (.var 4) (.cst (.int 3)))))
 (.cons (.set 6 (.bin .add (.bin .sub (.sub (.var 2) (.cst (.int 1))) (.cst (.int 1))) (.bin .mod (.var 4) (.cst (.int 3)))))
 (.cons (.ite (.and (.ch .le .lt (.cst (.int 0)) (.var 5) (.blt .len (.cons (.var 0) .nil))) (.and (.ch .le .lt (.cst (.int 0)) (.var 6) (.blt .len (.cons (.sub (.var 0) (.cst (.int 0))) .nil))) (.and (.cmp .ne (.var 4) (.cst (.int 4))) (.cmp .ne (.sub (.sub (.var 0) (.var 5)) (.var 6)) (.cst (.str "#"))))))
  (.cons (.set 7 (.call "_law_cost" (.cons (.var 0) (.cons (.var 1) (.cons (.var 2) (.cons (.tup (.cons (.var 5) (.cons (.var 6) .nil))) .nil))))))
  (.cons (.ite (.cmp .isn (.var 7) (.cst .non))
   (.cons (.app 3 (.tup (.cons (.tup (.cons (.var 5) (.cons (.var 6) .nil))) (.cons (.var 7) .nil))))
   .nil)
   .nil)
  .nil))
  .nil)
 .nil)))
theorem fl0 {rows : List Str} {w : Nat} (L : Fl rows w) : ∃ z, subOp (fl rows) (.int 0) = .ok (.str z) ∧ z.length = w ∧ z.length ≤ LIM := by
 have hz : rows[0]? = some (rows[0]'L.ne) := List.getElem?_eq_getElem L.ne
 have hm := List.mem_of_getElem? hz
 exact ⟨_, row_at (j := 0) hz, L.rect _ hm, Nat.le_trans (L.rok.2 _ hm) (by decide)⟩
theorem kbody_ok (F : Fns) (hc : LawCostOk F) {rows : List Str} {w : Nat} (L : Fl rows w) {sl : Bool} {cl pr : Int} (V : Wk cl pr) {r c : Int} (h : opn rows r c = true) (i : Nat) (hi : i < 9) (T : List (Int × Int × Int)) (hT : T.length ≤ 100) (t4 t5 t6 t7 : Ci.Slot) :
 ∃ (u : Ci.Slot), (((Tg.one 4).put (.int i) [.val (fl rows), .val (wk sl cl pr), .val (sp r c), .own (.lst (T.map tP)), t4, t5, t6, t7]).bind fun env' => exSs F kBody env') =
  .ok (.nx [.val (fl rows), .val (wk sl cl pr), .val (sp r c), .own (.lst ((T ++ (if i ≠ 4 ∧ opn rows (r - 1 + i / 3) (c - 1 + i % 3) = true then ((stepC rows sl cl pr r c (r - 1 + i / 3) (c - 1 + i % 3)).map fun v => (r - 1 + (i : Int) / 3, c - 1 + (i : Int) % 3, v)).toList else [])).map tP)), .val (.int i), .val (.int (r - 1 + i / 3)), .val (.int (c - 1 + i % 3)), u]) := by
 have q3 : (0 : Int) < 3 := by decide
 have q4 : (0 : Int) < 3 ∧ (3 : Int) < 1073741824 := by decide
 obtain ⟨z0, f1, f2, f3⟩ := fl0 L
 have f2' : (z0.length : Int) = (w : Int) := by rw [f2]
 have lTT : T.length < LIM := Nat.lt_of_le_of_lt hT (by decide)
 generalize hr' : r - 1 + (i : Int) / 3 = r'
 generalize hc' : c - 1 + (i : Int) % 3 = c'
 by_cases b1 : 0 ≤ r'
 ·by_cases b2 : r' < rows.length
  ·by_cases b3 : 0 ≤ c'
   ·by_cases b4 : c' < w
    ·obtain ⟨z, g1, x, g2, g3⟩ := cell_at L b1 b2 b3 b4
     by_cases b5 : i = 4
     ·have k5 : (!((i : Int) == 4)) = false := by simp [b5]
      rw [if_neg (fun z => z.1 b5)]
      refine ⟨t7, ?_⟩
      simp only [kBody, runD, exSs, exS, evE, evEs, evO, evI, capt, tyOp, isTy, List.replicate, Nat.reduceAdd, Nat.reduceSub, reduceIte, ite_true, ite_false, J, J2, q3, q4, and_self, hr', hc', b1, b2, b3, b4, f1, f2', f3, decide_true, k5, List.length_map, List.append_nil]
     ·have k5 : (!((i : Int) == 4)) = true := by simp; omega
      cases o : opn rows r' c' with
      | false =>
       rw [o] at g3
       refine ⟨t7, ?_⟩
       simp only [kBody, runD, exSs, exS, evE, evEs, evO, evI, capt, tyOp, isTy, List.replicate, Nat.reduceAdd, Nat.reduceSub, reduceIte, ite_true, ite_false, J, J2, q3, q4, and_self, hr', hc', b1, b2, b3, b4, f1, f2', f3, decide_true, k5, List.length_map, g1, g2, g3, sgn_ne, and_false, List.append_nil]
      | true =>
       rw [o] at g3
       have nf : ¬ far r c r' c' := by unfold far; omega
       have e := hc rows w L sl cl pr V r c r' c' h o nf
       cases hs : stepC rows sl cl pr r c r' c' with
       | none =>
        rw [hs] at e
        refine ⟨.val .non, ?_⟩
        have e5 : opIsn .non .non = .ok (.bl false) := rfl
        simp only [oP] at e
        simp only [kBody, runD, exSs, exS, evE, evEs, evO, evI, capt, tyOp, isTy, List.replicate, Nat.reduceAdd, Nat.reduceSub, reduceIte, ite_true, ite_false, J, J2, q3, q4, and_self, hr', hc', b1, b2, b3, b4, f1, f2', f3, decide_true, k5, List.length_map, g1, g2, g3, sgn_ne, e, e5, Option.map_none, Option.toList_none, List.append_nil, ite_self]
       | some v =>
        rw [hs] at e
        refine ⟨.val (.int v), ?_⟩
        have e5 : opIsn (.int v) .non = .ok (.bl true) := rfl
        simp only [oP] at e
        simp only [kBody, runD, exSs, exS, evE, evEs, evO, evI, capt, tyOp, isTy, List.replicate, Nat.reduceAdd, Nat.reduceSub, reduceIte, ite_true, ite_false, J, J2, q3, q4, and_self, hr', hc', b1, b2, b3, b4, f1, f2', f3, decide_true, k5, List.length_map, g1, g2, g3, sgn_ne, e, e5, Option.map_some, Option.toList_some, lTT, ne_eq, b5, not_false_eq_true, List.map_append]
    ·have o : opn rows r' c' = false := by
      rw [Bool.eq_false_iff]; intro z; exact b4 (opn_in L z).2.2.2
     refine ⟨t7, ?_⟩
     simp only [kBody, runD, exSs, exS, evE, evEs, evO, evI, capt, tyOp, isTy, List.replicate, Nat.reduceAdd, Nat.reduceSub, reduceIte, ite_true, ite_false, J, J2, q3, q4, and_self, hr', hc', b1, b2, b3, b4, f1, f2', f3, decide_true, decide_false, List.length_map, o, and_false, List.append_nil]
   ·have o : opn rows r' c' = false := by
     rw [Bool.eq_false_iff]; intro z; exact b3 (opn_in L z).2.2.1
    refine ⟨t7, ?_⟩
    simp only [kBody, runD, exSs, exS, evE, evEs, evO, evI, capt, tyOp, isTy, List.replicate, Nat.reduceAdd, Nat.reduceSub, reduceIte, ite_true, ite_false, J, J2, q3, q4, and_self, hr', hc', b1, b2, b3, f1, f2', f3, decide_true, decide_false, List.length_map, o, and_false, List.append_nil]
  ·have o : opn rows r' c' = false := by
    rw [Bool.eq_false_iff]; intro z; exact b2 (opn_in L z).2.1
   refine ⟨t7, ?_⟩
   simp only [kBody, runD, exSs, exS, evE, evEs, evO, evI, capt, tyOp, isTy, List.replicate, Nat.reduceAdd, Nat.reduceSub, reduceIte, ite_true, ite_false, J, J2, q3, q4, and_self, hr', hc', b1, b2, decide_true, decide_false, List.length_map, o, and_false, List.append_nil]
 ·have o : opn rows r' c' = false := by
   rw [Bool.eq_false_iff]; intro z; exact b1 (opn_in L z).1
  refine ⟨t7, ?_⟩
  simp only [kBody, runD, exSs, exS, evE, evEs, evO, evI, capt, tyOp, isTy, List.replicate, Nat.reduceAdd, Nat.reduceSub, reduceIte, ite_true, ite_false, J, J2, q3, q4, and_self, hr', hc', b1, decide_true, decide_false, List.length_map, o, and_false, List.append_nil]
end K03
set_option maxHeartbeats 4000000
namespace K03
open PySem L2 Ci K71
theorem found_app (T U : List (Int × Int × Int)) (r' c' : Int) : found (T ++ U) r' c' = found T r' c' ++ found U r' c' := by
 simp only [found, List.filter_append, List.map_append]
theorem found_one (r c v r' c' : Int) : found [(r, c, v)] r' c' = if r = r' ∧ c = c' then [v] else [] := by
 by_cases h : r = r' ∧ c = c'
 ·rw [if_pos h]; simp [found, h.1, h.2]
 ·rw [if_neg h]
  simp only [found, List.map_eq_nil_iff, List.filter_eq_nil_iff, List.mem_singleton]
  rintro t rfl
  simpa using h
def isK (r c : Int) (k : Nat) (r' c' : Int) : Prop := ∃ i : Nat, i < k ∧ i ≠ 4 ∧ r - 1 + (i : Int) / 3 = r' ∧ c - 1 + (i : Int) % 3 = c'
theorem steps_ok (F : Fns) (hc : LawCostOk F) : ∀ rows w, Fl rows w → ∀ sl cl pr, Wk cl pr → ∀ r c, opn rows r c = true → ∃ T, runD F d__law_steps [fl rows, wk sl cl pr, sp r c] = .ok (.lst (T.map tP)) ∧ T.length ≤ 9 ∧ (∀ t ∈ T, opn rows t.1 t.2.1 = true ∧ stepC rows sl cl pr r c t.1 t.2.1 = some t.2.2) ∧ ∀ r' c', opn rows r' c' = true → found T r' c' = (stepC rows sl cl pr r c r' c').toList := by
 intro rows w L sl cl pr V r c h
 obtain ⟨env', e, T, t4, t5, t6, t7, hl, hT, hA, hB, rfl⟩ := forL_list (body := fun x env => ((Tg.one 4).put x env).bind fun env' => exSs F kBody env')
  (P := fun k env => ∃ (T : List (Int × Int × Int)) (t4 t5 t6 t7 : Ci.Slot), T.length ≤ k ∧ (∀ t ∈ T, opn rows t.1 t.2.1 = true ∧ stepC rows sl cl pr r c t.1 t.2.1 = some t.2.2) ∧ (∀ r' c', opn rows r' c' = true → isK r c k r' c' → found T r' c' = (stepC rows sl cl pr r c r' c').toList) ∧ (∀ r' c', ¬ isK r c k r' c' → found T r' c' = []) ∧ env = [.val (fl rows), .val (wk sl cl pr), .val (sp r c), .own (.lst (T.map tP)), t4, t5, t6, t7])
  (rngP 0 (9 : Int).toNat) 0 [.val (fl rows), .val (wk sl cl pr), .val (sp r c), .own (.lst []), .no, .no, .no, .no] ⟨[], _, _, _, _, Nat.le_refl _, (fun t ht => by cases ht), (fun r' c' _ hk => by obtain ⟨i, hi, _⟩ := hk; omega), (fun _ _ _ => rfl), rfl⟩ (by
  intro i x env hx hP
  obtain ⟨hi, rfl⟩ := rng_at hx
  have hi9 : i < 9 := hi
  obtain ⟨T, t4, t5, t6, t7, hl, hT, hA, hB, rfl⟩ := hP
  obtain ⟨u, e⟩ := kbody_ok F hc L V h i hi9 T (by omega) t4 t5 t6 t7
  refine ⟨_, e, _, _, _, _, _, ?_, ?_, ?_, ?_, rfl⟩
  ·rw [List.length_append]
   split
   ·cases stepC rows sl cl pr r c (r - 1 + i / 3) (c - 1 + i % 3) <;> simp <;> omega
   ·simp; omega
  ·intro t ht
   rw [List.mem_append] at ht
   rcases ht with ht | ht
   ·exact hT t ht
   ·split at ht
    ·rename_i hh
     cases hs : stepC rows sl cl pr r c (r - 1 + i / 3) (c - 1 + i % 3) with
     | none => rw [hs] at ht; cases ht
     | some v =>
      rw [hs] at ht
      simp only [Option.map_some, Option.toList_some, List.mem_singleton] at ht
      subst ht
      exact ⟨hh.2, hs⟩
    ·cases ht
  ·intro r' c' ho hk
   rw [found_app]
   simp only [Nat.zero_add] at hA hB hk
   by_cases hkk : isK r c i r' c'
   ·rw [hA r' c' ho hkk]
    have hne : ¬ (r - 1 + (i : Int) / 3 = r' ∧ c - 1 + (i : Int) % 3 = c') := by
     obtain ⟨j, hj, _, h1, h2⟩ := hkk
     omega
    split
    ·cases stepC rows sl cl pr r c (r - 1 + i / 3) (c - 1 + i % 3) with
     | none => simp [found]
     | some v =>
      simp only [Option.map_some, Option.toList_some]
      rw [found_one, if_neg hne, List.append_nil]
    ·simp [found]
   ·rw [hB r' c' hkk, List.nil_append]
    obtain ⟨j, hj, h4, h1, h2⟩ := hk
    have hji : j = i := by
     by_cases hlt : j < i
     ·exact absurd ⟨j, hlt, h4, h1, h2⟩ hkk
     ·omega
    subst hji
    subst h1
    subst h2
    rw [if_pos ⟨h4, ho⟩]
    cases stepC rows sl cl pr r c (r - 1 + j / 3) (c - 1 + j % 3) with
    | none => simp [found]
    | some v =>
     simp only [Option.map_some, Option.toList_some]
     rw [found_one, if_pos ⟨rfl, rfl⟩]
  ·intro r' c' hk
   rw [found_app]
   simp only [Nat.zero_add] at hB hk
   rw [hB r' c' (fun ⟨j, hj, z⟩ => hk ⟨j, by omega, z⟩), List.nil_append]
   split
   ·rename_i hh
    have hne : ¬ (r - 1 + (i : Int) / 3 = r' ∧ c - 1 + (i : Int) % 3 = c') := fun z => hk ⟨i, by omega, hh.1, z.1, z.2⟩
    cases stepC rows sl cl pr r c (r - 1 + i / 3) (c - 1 + i % 3) with
    | none => simp [found]
    | some v =>
     simp only [Option.map_some, Option.toList_some]
     rw [found_one, if_neg hne]
   ·simp [found])
 have h9 : 0 + (rngP 0 (9 : Int).toNat).length = 9 := by decide
 rw [h9] at hl hA hB
 refine ⟨T, ?_, hl, hT, fun r' c' ho => ?_⟩
 ·have s : small62 9 = true := by decide
  simp only [kBody, runD, exSs, exS, evE, evEs, evO, evI, capt, tyOp, isTy, List.replicate, Nat.reduceAdd, Nat.reduceSub, reduceIte, ite_true, ite_false, J, J2] at e
  simp only [d__law_steps, runD, exSs, exS, evE, evEs, evO, evI, capt, tyOp, isTy, List.replicate, Nat.reduceAdd, Nat.reduceSub, reduceIte, ite_true, ite_false, J, J2, s, e, List.modify_succ_cons, List.modify_zero_cons, fxo]
 ·by_cases hk : isK r c 9 r' c'
  ·exact hA r' c' ho hk
  ·rw [hB r' c' hk]
   have : far r c r' c' := by
    refine Classical.byContradiction fun hf => hk ?_
    unfold far at hf
    refine ⟨(3 * (r' - r + 1) + (c' - c + 1)).toNat, ?_, ?_, ?_, ?_⟩ <;> omega
   rw [show stepC rows sl cl pr r c r' c' = none from if_pos this]
   rfl
end K03
set_option maxHeartbeats 4000000
namespace K03
open PySem L2 Ci K71
def El (x : PV) : Prop := x = .non ∨ (∃ r c, x = sp r c) ∨ x = .tup [.int 0] ∨ (∃ r c, x = .lst [.int r, .int c]) ∨ (∃ r z, x = .tup [.int r, .str z]) ∨ ∃ P : List (Int × Int), x = .lst (P.map spP)
def isSp : PV → Bool
 | .tup [.int _, .int _] => true
 | _ => false
def opV (rows : List Str) : PV → Bool
 | .tup [.int r, .int c] => opn rows r c
 | _ => false
def toP : PV → Int × Int
 | .tup [.int r, .int c] => (r, c)
 | _ => (0, 0)
theorem spotV_ok (F : Fns) (h : ∀ i, F "is_whole" [.int i] = .ok (.bl true)) (hs : ∀ z, F "is_whole" [.str z] = .ok (.bl false)) {x : PV} (hx : El x) : runD F d_is_spot [x] = .ok (.bl (isSp x)) := by
 rcases hx with rfl | ⟨r, c, rfl⟩ | rfl | ⟨r, c, rfl⟩ | ⟨r, z, rfl⟩ | ⟨P, rfl⟩
 ·rfl
 ·exact is_spot_ok F h r c
 ·rfl
 ·rfl
 ·have e0 : subOp (.tup [.int r, .str z]) (.int 0) = .ok (.int r) := rfl
  have e1 : subOp (.tup [.int r, .str z]) (.int 1) = .ok (.str z) := rfl
  have e2 : opEq (.int ((2 : Nat) : Int)) (.int 2) = .ok (.bl true) := rfl
  simp only [K71.d_is_spot, runD, exSs, exS, evE, evEs, evO, evI, capt, tyOp, isTy, List.replicate, Nat.reduceAdd, Nat.reduceSub, reduceIte, ite_true, ite_false, J, h, hs, e0, e1, e2, isSp]
 ·rfl
theorem openV_ok (F : Fns) (hs : ∀ x, El x → F "is_spot" [x] = .ok (.bl (isSp x))) (ho : ∀ rows, Rok rows → ∀ r c, F "is_on_floor" [fl rows, sp r c] = .ok (.bl (decide (0 ≤ r) && decide (0 ≤ c) && (cd rows r.toNat c.toNat).isSome)))
 {rows : List Str} (R : Rok rows) {x : PV} (hx : El x) : runD F d_is_open [fl rows, x] = .ok (.bl (opV rows x)) := by
 have e := hs x hx
 rcases hx with rfl | ⟨r, c, rfl⟩ | rfl | ⟨r, c, rfl⟩ | ⟨r, z, rfl⟩ | ⟨P, rfl⟩
 ·simp only [K71.d_is_open, runD, exSs, exS, evE, evEs, evO, evI, capt, tyOp, isTy, List.replicate, Nat.reduceAdd, Nat.reduceSub, reduceIte, ite_true, ite_false, J, e, isSp, opV]
 ·exact open_ok F (fun r c => hs _ (.inr (.inl ⟨r, c, rfl⟩))) ho rows R r c
 ·simp only [K71.d_is_open, runD, exSs, exS, evE, evEs, evO, evI, capt, tyOp, isTy, List.replicate, Nat.reduceAdd, Nat.reduceSub, reduceIte, ite_true, ite_false, J, e, isSp, opV]
 ·simp only [K71.d_is_open, runD, exSs, exS, evE, evEs, evO, evI, capt, tyOp, isTy, List.replicate, Nat.reduceAdd, Nat.reduceSub, reduceIte, ite_true, ite_false, J, e, isSp, opV]
 ·simp only [K71.d_is_open, runD, exSs, exS, evE, evEs, evO, evI, capt, tyOp, isTy, List.replicate, Nat.reduceAdd, Nat.reduceSub, reduceIte, ite_true, ite_false, J, e, isSp, opV]
 ·simp only [K71.d_is_open, runD, exSs, exS, evE, evEs, evO, evI, capt, tyOp, isTy, List.replicate, Nat.reduceAdd, Nat.reduceSub, reduceIte, ite_true, ite_false, J, e, isSp, opV]
def OpenV (F : Fns) : Prop := ∀ rows, Rok rows → ∀ x, El x → F "is_open" [fl rows, x] = .ok (.bl (opV rows x))
inductive Th : PV → Prop
 | l (xs : List PV) (h : ∀ x ∈ xs, El x) (n : xs.length ≤ 50) : Th (.lst xs)
 | n : Th .non
 | t (xs : List PV) : Th (.tup xs)
def okL (rows : List Str) : PV → Bool
 | .lst xs => !xs.isEmpty && xs.all (opV rows)
 | _ => false
theorem tyL {xs : List PV} : tyOp .list (.lst xs) = .ok (.bl true) := id rfl
theorem islist_ok (F : Fns) (ho : OpenV F) {rows : List Str} (R : Rok rows) {th : PV} (h : Th th) : runD F d_is_list_of_open_spots [fl rows, th] = .ok (.bl (okL rows th)) := by
 cases h with
 | n => rfl
 | t xs => rfl
 | l xs hx hn =>
  cases xs with
  | nil => rfl
  | cons x xs =>
   have l : (x :: xs).length < LIM := Nat.lt_of_le_of_lt hn (by decide)
   have b : (((x :: xs).length : Int) == 0) = false := by
    rw [Bool.eq_false_iff]
    simp only [List.length_cons, ne_eq, beq_iff_eq]
    omega
   simp only [List.length_cons] at b l
   simp only [d_is_list_of_open_spots, runD, exSs, exS, evE, evEs, evO, evI, capt, tyOp, isTy, List.replicate, Nat.reduceAdd, Nat.reduceSub, reduceIte, ite_true, ite_false, J, J2, tyL, b, l]
   have c := compL_map (f := fun x => (F "is_open" [fl rows, x]).bind fun y => .ok (some y)) (p := fun x : PV => x) (g := fun x => .bl (opV rows x)) (xs := x :: xs) (fun y hy => by simp only [ho rows R y (hx y hy), bok])
   simp only [List.map_id'] at c
   rw [c]
   simp only [bok, aL]
   rw [show ((x :: xs).map fun x => PV.bl (opV rows x)) = (((x :: xs).map (opV rows)).map .bl) by rw [List.map_map]; rfl, bools_map]
   simp only [runD, exSs, exS, evE, evEs, evO, evI, capt, tyOp, isTy, List.replicate, Nat.reduceAdd, Nat.reduceSub, reduceIte, ite_true, ite_false, J, J2, okL, List.isEmpty_cons]
   congr 2
   simp [List.all_map, Function.comp_def]
abbrev way (P : List (Int × Int)) : PV := .lst (P.map spP)
def cst (rows : List Str) (sl : Bool) (cl pr : Int) (P : List (Int × Int)) : List (Option Int) := (P.zip P.tail).map fun q => stepC rows sl cl pr q.1.1 q.1.2 q.2.1 q.2.2
theorem cut1 {α : Type} (xs : List α) : cutP xs (some 1) none = xs.tail := by
 cases xs with
 | nil => rfl
 | cons x xs =>
  unfold cutP HT.sIx
  simp
theorem zip_map : ∀ P Q : List (Int × Int), zipP (P.map spP) (Q.map spP) = (P.zip Q).map fun q => .tup [spP q.1, spP q.2]
 | [], _ => by simp [zipP]
 | _ :: _, [] => by simp [zipP]
 | p :: P, q :: Q => by simp only [List.map_cons, zipP, List.zip_cons_cons, zip_map P Q]
def StepOk (F : Fns) : Prop := ∀ rows w, Fl rows w → ∀ sl cl pr, Wk cl pr → ∀ r c r' c', opn rows r c = true → opn rows r' c' = true → F "step_cost" [fl rows, wk sl cl pr, sp r c, sp r' c'] = .ok (oP (stepC rows sl cl pr r c r' c'))
theorem along_ok (F : Fns) (hs : StepOk F) {rows : List Str} {w : Nat} (L : Fl rows w) {sl : Bool} {cl pr : Int} (V : Wk cl pr) {P : List (Int × Int)} (hP : ∀ p ∈ P, opn rows p.1 p.2 = true) (hn : P.length ≤ 50) :
 runD F d_costs_along [fl rows, wk sl cl pr, way P] = .ok (.lst ((cst rows sl cl pr P).map oP)) := by
 have l : (P.zip P.tail).length < LIM := Nat.lt_of_le_of_lt (m := 50) (by simp only [List.length_zip]; omega) (by decide)
 have e1 : sliceOp (way P) (some 1) none = .ok (way P.tail) := by
  show Res.ok (PV.lst (cutP (P.map spP) (some 1) none)) = _
  rw [cut1, ← List.map_tail]
 simp only [d_costs_along, runD, exSs, exS, evE, evEs, evO, evI, capt, tyOp, isTy, List.replicate, Nat.reduceAdd, Nat.reduceSub, reduceIte, ite_true, ite_false, J, J2, e1, zip_map, List.length_map, l]
 rw [compL_map (g := fun q : (Int × Int) × (Int × Int) => oP (stepC rows sl cl pr q.1.1 q.1.2 q.2.1 q.2.2)) (fun q hq => by
  have h1 := hP q.1 (List.of_mem_zip hq).1
  have h2 := hP q.2 (List.mem_of_mem_tail (List.of_mem_zip hq).2)
  simp only [runD, exSs, exS, evE, evEs, evO, evI, capt, tyOp, isTy, List.replicate, Nat.reduceAdd, Nat.reduceSub, reduceIte, ite_true, ite_false, J, J2, hs rows w L sl cl pr V _ _ _ _ h1 h2])]
 simp only [runD, exSs, exS, evE, evEs, evO, evI, capt, tyOp, isTy, List.replicate, Nat.reduceAdd, Nat.reduceSub, reduceIte, ite_true, ite_false, J, J2, cst, List.map_map]
 rfl
def dueF : Int → List (Option Int) → Option Int
 | a, [] => some a
 | _, none :: _ => none
 | a, some v :: r => dueF (a + v) r
theorem due_none : ∀ (l : List (Option Int)) (a : Int), (dueF a l).isSome = !(l.any fun o => o.isNone)
 | [], _ => rfl
 | none :: _, _ => rfl
 | some v :: r, a => by simp only [dueF, due_none r, List.any_cons, Option.isNone_some, Bool.false_or]
def dueT (rows : List Str) (sl : Bool) (cl pr : Int) (th : PV) : Option Int := if okL rows th then (match th with | .lst xs => dueF 0 (cst rows sl cl pr (xs.map toP)) | _ => none) else none
theorem opV_sp {rows : List Str} {x : PV} (h : opV rows x = true) : ∃ r c, x = sp r c ∧ opn rows r c = true ∧ toP x = (r, c) := by
 unfold opV at h
 split at h
 ·exact ⟨_, _, rfl, h, rfl⟩
 ·cases h
theorem okL_way {rows : List Str} {xs : List PV} (h : okL rows (.lst xs) = true) : xs ≠ [] ∧ .lst xs = way (xs.map toP) ∧ ∀ p ∈ xs.map toP, opn rows p.1 p.2 = true := by
 simp only [okL, Bool.and_eq_true, Bool.not_eq_true', List.all_eq_true] at h
 refine ⟨fun z => by rw [z] at h; simp at h, ?_, ?_⟩
 ·show PV.lst xs = PV.lst ((xs.map toP).map spP)
  congr 1
  rw [List.map_map]
  refine (List.map_id' xs).symm.trans (List.map_congr_left fun x hx => ?_)
  obtain ⟨r, c, rfl, _, e⟩ := opV_sp (h.2 x hx)
  simp only [Function.comp, e]
 ·intro p hp
  obtain ⟨x, hx, rfl⟩ := List.mem_map.1 hp
  obtain ⟨r, c, rfl, h1, e⟩ := opV_sp (h.2 x hx)
  rw [e]
  exact h1
def ListOk (F : Fns) : Prop := ∀ rows, Rok rows → ∀ th, Th th → F "is_list_of_open_spots" [fl rows, th] = .ok (.bl (okL rows th))
def AlongOk (F : Fns) : Prop := ∀ rows w, Fl rows w → ∀ sl cl pr, Wk cl pr → ∀ P : List (Int × Int), (∀ p ∈ P, opn rows p.1 p.2 = true) → P.length ≤ 50 → F "costs_along" [fl rows, wk sl cl pr, way P] = .ok (.lst ((cst rows sl cl pr P).map oP))
theorem nin_non (l : List (Option Int)) : opNin .non (.lst (l.map oP)) = .ok (.bl (!(l.any fun o => o.isNone))) := by
 have h1 : (l.map oP).all pln = true := by
  simp only [List.all_eq_true, List.mem_map]
  rintro _ ⟨o, _, rfl⟩
  cases o <;> rfl
 have h2 : memV .non (l.map oP) = l.any fun o => o.isNone := by
  unfold memV
  rw [List.any_map]
  congr 1
  funext o
  cases o <;> rfl
 show (if (pln .non && (l.map oP).all pln) = true then Res.ok (PV.bl (!memV .non (l.map oP))) else .bad) = _
 rw [h1, h2]
 rfl
theorem isway_ok (F : Fns) (hl : ListOk F) (ha : AlongOk F) {rows : List Str} {w : Nat} (L : Fl rows w) {sl : Bool} {cl pr : Int} (V : Wk cl pr) {th : PV} (h : Th th) : runD F d_is_way [fl rows, wk sl cl pr, th] = .ok (.bl (dueT rows sl cl pr th).isSome) := by
 have e := hl rows L.rok th h
 cases ho : okL rows th with
 | false =>
  rw [ho] at e
  simp only [d_is_way, runD, exSs, exS, evE, evEs, evO, evI, capt, tyOp, isTy, List.replicate, Nat.reduceAdd, Nat.reduceSub, reduceIte, ite_true, ite_false, J, J2, e, dueT, ho]
  rfl
 | true =>
  rw [ho] at e
  cases h with
  | n => cases ho
  | t xs => cases ho
  | l xs hx hn =>
   obtain ⟨_, h1, h2⟩ := okL_way ho
   have e2 := ha rows w L sl cl pr V (xs.map toP) h2 (by simpa using hn)
   rw [← h1] at e2
   simp only [d_is_way, runD, exSs, exS, evE, evEs, evO, evI, capt, tyOp, isTy, List.replicate, Nat.reduceAdd, Nat.reduceSub, reduceIte, ite_true, ite_false, J, J2, e, e2, nin_non, dueT, ho, due_none]
end K03
set_option maxHeartbeats 4000000
namespace K03
open PySem L2 Ci K71
theorem bexc {α β : Type} {c : Str} {f : α → Res β} : (Res.exc c : Res α).bind f = .exc c := id rfl
def WayOk (F : Fns) : Prop := ∀ rows w, Fl rows w → ∀ sl cl pr, Wk cl pr → ∀ th, Th th → F "is_way" [fl rows, wk sl cl pr, th] = .ok (.bl (dueT rows sl cl pr th).isSome)
theorem needway_ok (F : Fns) (hw : WayOk F) {rows : List Str} {w : Nat} (L : Fl rows w) {sl : Bool} {cl pr : Int} (V : Wk cl pr) {th : PV} (h : Th th) : runD F d_need_way [fl rows, wk sl cl pr, th] = if (dueT rows sl cl pr th).isSome then .ok .non else .exc "NoWay" := by
 have e := hw rows w L sl cl pr V th h
 cases hd : (dueT rows sl cl pr th).isSome with
 | true => rw [hd] at e; simp only [d_need_way, runD, exSs, exS, evE, evEs, evO, evI, capt, tyOp, isTy, List.replicate, Nat.reduceAdd, Nat.reduceSub, reduceIte, ite_true, ite_false, J, J2, e]
 | false => rw [hd] at e; simp only [d_need_way, runD, exSs, exS, evE, evEs, evO, evI, capt, tyOp, isTy, List.replicate, Nat.reduceAdd, Nat.reduceSub, reduceIte, ite_true, ite_false, J, J2, e, bexc]
def NeedWayOk (F : Fns) : Prop := ∀ rows w, Fl rows w → ∀ sl cl pr, Wk cl pr → ∀ th, Th th → F "need_way" [fl rows, wk sl cl pr, th] = if (dueT rows sl cl pr th).isSome then .ok .non else .exc "NoWay"
def oR : Option Int → Res PV
 | some v => .ok (.int v)
 | none => .exc "NoWay"
theorem atI_nat {α : Type} {xs : List α} {k : Nat} {x : α} (h : xs[k]? = some x) : atI xs (k : Int) = some x := by
 obtain ⟨hk, rfl⟩ := List.getElem?_eq_some_iff.1 h
 exact atI_at hk
theorem tP0 {t : Int × Int × Int} : subOp (tP t) (.int 0) = .ok (sp t.1 t.2.1) := id rfl
theorem tP1 {t : Int × Int × Int} : subOp (tP t) (.int 1) = .ok (.int t.2.2) := id rfl
theorem comp_found {f : PV → Res (Option PV)} {r' c' : Int} (hf : ∀ t, f (tP t) = .ok (if t.1 = r' ∧ t.2.1 = c' then some (.int t.2.2) else none)) : ∀ T : List (Int × Int × Int), compL f (T.map tP) = .ok ((found T r' c').map .int)
 | [] => rfl
 | t :: T => by
  have ih := comp_found hf T
  by_cases h : t.1 = r' ∧ t.2.1 = c'
  ·have : found (t :: T) r' c' = t.2.2 :: found T r' c' := by simp [found, h.1, h.2]
   simp only [List.map_cons, compL, hf t, if_pos h, wok, bok, ih, oc, this]
  ·have : found (t :: T) r' c' = found T r' c' := by
    simp only [found]
    rw [List.filter_cons_of_neg]
    simpa using h
   simp only [List.map_cons, compL, hf t, if_neg h, wok, bok, ih, oc, this]
def uBody : Ss := (.cons (.set 7 (.compIf 1 [6] (.one 0) (.seq (.call "_law_steps" (.cons (.var 0) (.cons (.var 1) (.cons (.sub (.var 2) (.var 5)) .nil))))) (.cmp .eq (.sub (.var 0) (.cst (.int 0))) (.var 1)) (.sub (.var 0) (.cst (.int 1)))))
 (.cons (.ite (.cmp .eq (.var 7) (.lst .nil))
  (.cons (.ret (.cst .non))
  .nil)
  .nil)
 (.cons (.set 4 (.bin .add (.var 4) (.sub (.var 7) (.cst (.int 0)))))
 .nil)))
theorem ubody_ok (F : Fns) (hst : StepsOk F) {rows : List Str} {w : Nat} (L : Fl rows w) {sl : Bool} {cl pr : Int} (V : Wk cl pr) {P : List (Int × Int)} {k : Nat} {p q : Int × Int} (hk : P[k]? = some p) (hp : opn rows p.1 p.2 = true) (hq : opn rows q.1 q.2 = true) (S : PV) (acc : Int) (s5 s6 s7 : Ci.Slot) :
 ∃ u, (((Tg.two 5 6).put (.tup [.int k, spP q]) [.val (fl rows), .val (wk sl cl pr), .val (way P), .val S, .val (.int acc), s5, s6, s7]).bind fun env' => exSs F uBody env') =
  .ok (match stepC rows sl cl pr p.1 p.2 q.1 q.2 with | some v => .nx [.val (fl rows), .val (wk sl cl pr), .val (way P), .val S, .val (.int (acc + v)), .val (.int k), .val (spP q), u] | none => .rt .non) := by
 obtain ⟨T, e, hl, _, hfd⟩ := hst rows w L sl cl pr V p.1 p.2 hp
 have e1 : subOp (way P) (.int k) = .ok (sp p.1 p.2) := by
  show Res.of (atI (P.map spP) (k : Int)) = _
  rw [atI_nat (x := spP p) (by rw [List.getElem?_map, hk]; rfl)]
  rfl
 have l : T.length < LIM := Nat.lt_of_le_of_lt hl (by decide)
 have cf := comp_found (f := fun x => ((((slotV (some (.val x))).bind fun x => subOp x (.int 0)).bind fun x => opEq x (spP q))).bind fun t => asB t fun t => if t then ((slotV (some (.val x))).bind fun x => subOp x (.int 1)).bind fun y => .ok (some y) else .ok none) (r' := q.1) (c' := q.2) (fun t => by
  simp only [sv, bok, tP0, tP1, eS, asb]
  by_cases h : t.1 = q.1 ∧ t.2.1 = q.2
  ·simp [h.1, h.2]
  ·rw [if_neg h]
   have : ((t.1 == q.1) && ((t.2.1 == q.2) && true)) = false := by
    rw [Bool.eq_false_iff]
    intro z
    exact h (by simpa using z)
   rw [this]
   rfl) T
 rw [hfd q.1 q.2 hq] at cf
 have en := eq_nil (stepC rows sl cl pr p.1 p.2 q.1 q.2).toList
 simp only [runD, exSs, exS, evE, evEs, evO, evI, capt, tyOp, isTy, List.replicate, Nat.reduceAdd, Nat.reduceSub, reduceIte, ite_true, ite_false, J, J2] at cf
 cases hs : stepC rows sl cl pr p.1 p.2 q.1 q.2 with
 | none =>
  rw [hs] at cf en
  refine ⟨.no, ?_⟩
  simp only [Option.toList_none, List.map_nil] at cf en
  have en' : opEq (.lst []) (.lst []) = .ok (.bl true) := rfl
  simp only [uBody, runD, exSs, exS, evE, evEs, evO, evI, capt, tyOp, isTy, List.replicate, Nat.reduceAdd, Nat.reduceSub, reduceIte, ite_true, ite_false, J, J2, e1, e, List.length_map, l, cf, en']
 | some v =>
  rw [hs] at cf en
  refine ⟨.val (.lst [.int v]), ?_⟩
  simp only [Option.toList_some, List.map_cons, List.map_nil] at cf
  have en' : opEq (.lst [.int v]) (.lst []) = .ok (.bl false) := rfl
  have e2 : subOp (.lst [.int v]) (.int 0) = .ok (.int v) := rfl
  simp only [uBody, runD, exSs, exS, evE, evEs, evO, evI, capt, tyOp, isTy, List.replicate, Nat.reduceAdd, Nat.reduceSub, reduceIte, ite_true, ite_false, J, J2, e1, e, List.length_map, l, cf, en', e2]
end K03
set_option maxHeartbeats 4000000
namespace K03
open PySem L2 Ci K71
theorem sum_loop (F : Fns) (hst : StepsOk F) {rows : List Str} {w : Nat} (L : Fl rows w) {sl : Bool} {cl pr : Int} (V : Wk cl pr) {P : List (Int × Int)} (S : PV) : ∀ (Q : List (Int × Int)) (k : Nat) (p : Int × Int) (acc : Int) (s5 s6 s7 : Ci.Slot), (∀ i, (p :: Q)[i]? = P[k + i]?) → (∀ q ∈ p :: Q, opn rows q.1 q.2 = true) →
 ∃ u5 u6 u7, forL (fun x env => ((Tg.two 5 6).put x env).bind fun env' => exSs F uBody env') (enumP k (Q.map spP)) [.val (fl rows), .val (wk sl cl pr), .val (way P), .val S, .val (.int acc), s5, s6, s7] =
  .ok (match dueF acc (cst rows sl cl pr (p :: Q)) with | some a => .nx [.val (fl rows), .val (wk sl cl pr), .val (way P), .val S, .val (.int a), u5, u6, u7] | none => .rt .non)
 | [], k, p, acc, s5, s6, s7, _, _ => ⟨s5, s6, s7, rfl⟩
 | q :: Q, k, p, acc, s5, s6, s7, hP, ho => by
  have h0 : P[k]? = some p := (hP 0).symm
  obtain ⟨u, e⟩ := ubody_ok F hst L (sl := sl) V h0 (ho p (List.mem_cons_self ..)) (ho q (List.mem_cons_of_mem _ (List.mem_cons_self ..))) S acc s5 s6 s7
  have hc : cst rows sl cl pr (p :: q :: Q) = stepC rows sl cl pr p.1 p.2 q.1 q.2 :: cst rows sl cl pr (q :: Q) := rfl
  rw [hc]
  simp only [List.map_cons, enumP, forL, e, bok]
  cases hs : stepC rows sl cl pr p.1 p.2 q.1 q.2 with
  | none => exact ⟨s5, s6, s7, rfl⟩
  | some v =>
   obtain ⟨u5, u6, u7, e2⟩ := sum_loop F hst L (sl := sl) V S Q (k + 1) q (acc + v) (.val (.int k)) (.val (spP q)) u (fun i => by
    have := hP (i + 1)
    rw [show k + 1 + i = k + (i + 1) by omega]
    exact this) (fun z hz => ho z (List.mem_cons_of_mem _ hz))
   exact ⟨u5, u6, u7, e2⟩
theorem pl_all3 (L : List (Nat × Nat)) : (L.map spN).all pln = true := by
 simp only [List.all_eq_true, List.mem_map]
 rintro _ ⟨p, _, rfl⟩
 rfl
theorem memI (L : List (Nat × Nat)) (rows : List Str) (hL : ∀ r c, (r, c) ∈ L ↔ opN rows r c = true) (r c : Int) : memV (sp r c) (L.map spN) = opn rows r c := by
 rw [Bool.eq_iff_iff, opn_iff]
 simp only [memV, List.any_map, List.any_eq_true]
 constructor
 ·rintro ⟨⟨a, b⟩, h, e⟩
  have e' : (((a : Int) == r) && (((b : Int) == c) && true)) = true := e
  simp only [Bool.and_true, Bool.and_eq_true, beq_iff_eq] at e'
  obtain ⟨rfl, rfl⟩ := e'
  exact ⟨by omega, by omega, by simpa using (hL a b).1 h⟩
 ·rintro ⟨h0, h1, h2⟩
  obtain ⟨i, rfl⟩ := Int.eq_ofNat_of_zero_le h0
  obtain ⟨j, rfl⟩ := Int.eq_ofNat_of_zero_le h1
  refine ⟨(i, j), (hL i j).2 (by simpa using h2), ?_⟩
  show ((((i : Nat) : Int) == (i : Int)) && ((((j : Nat) : Int) == (j : Int)) && true)) = true
  simp
theorem memF {x : PV} (h : ∀ a b : Nat, eqv (spN (a, b)) x = false) (L : List (Nat × Nat)) : memV x (L.map spN) = false := by
 rw [Bool.eq_false_iff]
 simp only [memV, List.any_map, ne_eq, List.any_eq_true]
 rintro ⟨⟨a, b⟩, _, e⟩
 rw [Function.comp, h a b] at e
 cases e
theorem memE (L : List (Nat × Nat)) (rows : List Str) (hL : ∀ r c, (r, c) ∈ L ↔ opN rows r c = true) {x : PV} (hx : El x) : memV x (L.map spN) = opV rows x := by
 rcases hx with rfl | ⟨r, c, rfl⟩ | rfl | ⟨r, c, rfl⟩ | ⟨r, z, rfl⟩ | ⟨P, rfl⟩
 ·exact memF (fun a b => rfl) L
 ·exact memI L rows hL r c
 ·exact memF (fun a b => by
   show (((a : Int) == 0) && false) = false
   exact Bool.and_false _) L
 ·exact memF (fun a b => rfl) L
 ·exact memF (fun a b => by
   show (((a : Int) == r) && (false && true)) = false
   exact Bool.and_false _) L
 ·exact memF (fun a b => rfl) L
theorem el_pln {x : PV} (hx : El x) (n : Nat) : Ci.plain (n + 2) x = true := by
 rcases hx with rfl | ⟨r, c, rfl⟩ | rfl | ⟨r, c, rfl⟩ | ⟨r, z, rfl⟩ | ⟨P, rfl⟩
 ·rfl
 ·rfl
 ·rfl
 ·rfl
 ·rfl
 ·simp only [Ci.plain, List.all_eq_true, List.mem_map]
  rintro _ ⟨p, _, rfl⟩
  cases n <;> rfl
theorem ninE (L : List (Nat × Nat)) (rows : List Str) (hL : ∀ r c, (r, c) ∈ L ↔ opN rows r c = true) {x : PV} (hx : El x) : opNin x (.lst (L.map spN)) = .ok (.bl (!opV rows x)) := by
 have h1 : opNin x (.lst (L.map spN)) = (if (pln x && (L.map spN).all pln) = true then Res.ok (PV.bl (!memV x (L.map spN))) else .bad) := by
  cases x <;> rfl
 rw [h1, pl_all3, memE L rows hL hx, show pln x = true from el_pln hx 7]
 rfl
theorem comp_filter {f : PV → Res (Option PV)} {b : PV → Bool} : ∀ {xs : List PV}, (∀ x ∈ xs, f x = .ok (if b x then some x else none)) → compL f xs = .ok (xs.filter b)
 | [], _ => rfl
 | x :: xs, h => by
  have ih := comp_filter (f := f) (b := b) (xs := xs) fun y hy => h y (List.mem_cons_of_mem _ hy)
  have hx := h x (List.mem_cons_self ..)
  cases hb : b x with
  | true => rw [hb] at hx; rw [List.filter_cons_of_pos hb]; simp only [compL, hx, wok, bok, ih, oc, if_true]
  | false => rw [hb] at hx; rw [List.filter_cons_of_neg (by rw [hb]; exact Bool.false_ne_true)]; simp only [compL, hx, wok, bok, ih, oc, if_false, Bool.false_eq_true]
theorem ne_nilE {ys : List PV} (h : ∀ y ∈ ys, El y) : opNe (.lst ys) (.lst []) = .ok (.bl (!ys.isEmpty)) := by
 have : pln (.lst ys) = true := by
  show ys.all (Ci.plain 8) = true
  rw [List.all_eq_true]
  exact fun y hy => el_pln (h y hy) 6
 unfold opNe
 rw [this]
 cases ys <;> rfl
theorem eq_nilE {ys : List PV} (h : ∀ y ∈ ys, El y) : opEq (.lst ys) (.lst []) = .ok (.bl ys.isEmpty) := by
 have : pln (.lst ys) = true := by
  show ys.all (Ci.plain 8) = true
  rw [List.all_eq_true]
  exact fun y hy => el_pln (h y hy) 6
 unfold opEq
 rw [this]
 cases ys <;> rfl
theorem lawsum_ok (F : Fns) (hsp : SpotsOk F) (hst : StepsOk F) {rows : List Str} {w : Nat} (L : Fl rows w) {sl : Bool} {cl pr : Int} (V : Wk cl pr) {th : PV} (h : Th th) : runD F d__law_sum [fl rows, wk sl cl pr, th] = .ok (oP (dueT rows sl cl pr th)) := by
 obtain ⟨M, eM, lM, hM⟩ := hsp rows L.rok
 cases h with
 | n =>
  have : tyOp .list .non = .ok (.bl false) := rfl
  simp only [d__law_sum, runD, exSs, exS, evE, evEs, evO, evI, capt, tyOp, isTy, List.replicate, Nat.reduceAdd, Nat.reduceSub, reduceIte, ite_true, ite_false, J, J2, eM, this]
  rfl
 | t xs =>
  have : tyOp .list (.tup xs) = .ok (.bl false) := rfl
  simp only [d__law_sum, runD, exSs, exS, evE, evEs, evO, evI, capt, tyOp, isTy, List.replicate, Nat.reduceAdd, Nat.reduceSub, reduceIte, ite_true, ite_false, J, J2, eM, this]
  rfl
 | l xs hx hn =>
  have l : xs.length < LIM := Nat.lt_of_le_of_lt hn (by decide)
  have en := eq_nilE hx
  cases he : xs.isEmpty with
  | true =>
   rw [he] at en
   have hd : dueT rows sl cl pr (.lst xs) = none := by
    have : okL rows (.lst xs) = false := by
     show (!xs.isEmpty && xs.all (opV rows)) = false
     rw [he]
     rfl
    unfold dueT
    rw [if_neg (by rw [this]; exact Bool.false_ne_true)]
   rw [hd]
   simp only [d__law_sum, runD, exSs, exS, evE, evEs, evO, evI, capt, tyOp, isTy, List.replicate, Nat.reduceAdd, Nat.reduceSub, reduceIte, ite_true, ite_false, J, J2, eM, tyL, en, oP]
  | false =>
   rw [he] at en
   have cf := comp_filter (f := fun x => ((slotV (some (.val x))).bind fun x => opNin x (.lst (M.map spN))).bind fun t => asB t fun t => if t then (slotV (some (.val x))).bind fun y => .ok (some y) else .ok none) (b := fun x => !opV rows x) (xs := xs) (fun x hxm => by
    simp only [sv, bok, ninE M rows hM (hx x hxm), asb]
    cases opV rows x <;> rfl)
   have en2 := ne_nilE (ys := xs.filter fun x => !opV rows x) (fun y hy => hx y (List.mem_filter.1 hy).1)
   simp only [runD, exSs, exS, evE, evEs, evO, evI, capt, tyOp, isTy, List.replicate, Nat.reduceAdd, Nat.reduceSub, reduceIte, ite_true, ite_false, J, J2] at cf
   cases ha : xs.all (opV rows) with
   | false =>
    have hd : dueT rows sl cl pr (.lst xs) = none := by
     have : okL rows (.lst xs) = false := by
      show (!xs.isEmpty && xs.all (opV rows)) = false
      rw [ha, Bool.and_false]
     unfold dueT
     rw [if_neg (by rw [this]; exact Bool.false_ne_true)]
    have hne : (xs.filter fun x => !opV rows x).isEmpty = false := by
     rw [List.isEmpty_eq_false_iff]
     intro z
     rw [List.filter_eq_nil_iff] at z
     have : xs.all (opV rows) = true := List.all_eq_true.2 fun x hx => by simpa using z x hx
     rw [this] at ha
     cases ha
    rw [hne] at en2
    rw [hd]
    simp only [d__law_sum, runD, exSs, exS, evE, evEs, evO, evI, capt, tyOp, isTy, List.replicate, Nat.reduceAdd, Nat.reduceSub, reduceIte, ite_true, ite_false, J, J2, eM, tyL, en, l, cf, en2, oP]
   | true =>
    have hok : okL rows (.lst xs) = true := by
     show (!xs.isEmpty && xs.all (opV rows)) = true
     rw [he, ha]
     rfl
    obtain ⟨h0, h1, h2⟩ := okL_way hok
    have hne : (xs.filter fun x => !opV rows x) = [] := by
     rw [List.filter_eq_nil_iff]
     intro x hx'
     simpa using (List.all_eq_true.1 ha) x hx'
    rw [hne] at en2 cf
    have hd : dueT rows sl cl pr (.lst xs) = dueF 0 (cst rows sl cl pr (xs.map toP)) := by
     unfold dueT
     rw [if_pos hok]
    rw [hd]
    generalize hQ : xs.map toP = Q at h1 h2
    cases Q with
    | nil => rw [List.map_eq_nil_iff] at hQ; exact absurd hQ h0
    | cons p Q =>
     obtain ⟨u5, u6, u7, e⟩ := sum_loop F hst L (sl := sl) V (P := p :: Q) (.lst (M.map spN)) Q 0 p 0 .no .no .no (fun i => by rw [Nat.zero_add]) h2
     have e1 : sliceOp (way (p :: Q)) (some 1) none = .ok (.lst (Q.map spP)) := by
      show Res.ok (PV.lst (cutP ((p :: Q).map spP) (some 1) none)) = _
      rw [cut1]
      rfl
     rw [← h1] at e e1
     simp only [uBody, runD, exSs, exS, evE, evEs, evO, evI, capt, tyOp, isTy, List.replicate, Nat.reduceAdd, Nat.reduceSub, reduceIte, ite_true, ite_false, J, J2] at e
     simp only [List.isEmpty_nil] at en2
     cases hdd : dueF 0 (cst rows sl cl pr (p :: Q)) with
     | none =>
      rw [hdd] at e
      simp only [d__law_sum, runD, exSs, exS, evE, evEs, evO, evI, capt, tyOp, isTy, List.replicate, Nat.reduceAdd, Nat.reduceSub, reduceIte, ite_true, ite_false, J, J2, eM, tyL, en, l, cf, en2, e1, e, oP]
     | some v =>
      rw [hdd] at e
      simp only [d__law_sum, runD, exSs, exS, evE, evEs, evO, evI, capt, tyOp, isTy, List.replicate, Nat.reduceAdd, Nat.reduceSub, reduceIte, ite_true, ite_false, J, J2, eM, tyL, en, l, cf, en2, e1, e, oP]
end K03
set_option maxHeartbeats 4000000
namespace K03
open PySem L2 Ci K71
theorem walker_ok (F : Fns) (hp : PickOk F) (ns : List Int) (k : Int) (hk : 0 ≤ k) : ∃ sl cl pr, Wk cl pr ∧ runD F d__law_walker [scr ns, .int k] = .ok (wk sl cl pr) := by
 obtain ⟨a, ea, a0, a2⟩ := hp ns k 2 hk (by decide)
 obtain ⟨b, eb, b0, b4⟩ := hp ns (k + 1) 4 (by omega) (by decide)
 obtain ⟨c, ec, c0, c4⟩ := hp ns (k + 2) 4 (by omega) (by decide)
 obtain ⟨v, ev, hv⟩ := four_ok (a := 0) (b := 1) (c := 2) (d := 9) b0 b4
 refine ⟨(a == 0), v, c, ⟨by omega, c0, c4⟩, ?_⟩
 simp only [d__law_walker, runD, exSs, exS, evE, evEs, evO, evI, capt, tyOp, isTy, List.replicate, Nat.reduceAdd, Nat.reduceSub, reduceIte, ite_true, ite_false, J, J2, ea, eb, ec, ev]
theorem atI_last {α : Type} (xs : List α) (x : α) : atI (xs ++ [x]) (-1) = some x := by
 unfold atI ixN
 have h1 : ¬ (0 : Int) ≤ -1 := by decide
 have h2 : -((xs ++ [x]).length : Int) ≤ -1 := by simp only [List.length_append, List.length_singleton]; omega
 rw [if_neg h1, if_pos h2]
 have h3 : (-1 + ((xs ++ [x]).length : Int)).toNat = xs.length := by simp only [List.length_append, List.length_singleton]; omega
 rw [h3]
 simp
theorem cst_snoc (rows : List Str) (sl : Bool) (cl pr : Int) (q t : Int × Int) : ∀ P : List (Int × Int), cst rows sl cl pr (P ++ [q] ++ [t]) = cst rows sl cl pr (P ++ [q]) ++ [stepC rows sl cl pr q.1 q.2 t.1 t.2]
 | [] => rfl
 | [p] => rfl
 | p :: p' :: P => by
  have ih := cst_snoc rows sl cl pr q t (p' :: P)
  have e1 : cst rows sl cl pr (p :: p' :: P ++ [q] ++ [t]) = stepC rows sl cl pr p.1 p.2 p'.1 p'.2 :: cst rows sl cl pr (p' :: P ++ [q] ++ [t]) := rfl
  have e2 : cst rows sl cl pr (p :: p' :: P ++ [q]) = stepC rows sl cl pr p.1 p.2 p'.1 p'.2 :: cst rows sl cl pr (p' :: P ++ [q]) := rfl
  rw [e1, e2, ih]
  rfl
theorem ne_nilT (T : List (Int × Int × Int)) : opNe (.lst (T.map tP)) (.lst []) = .ok (.bl (!T.isEmpty)) := by
 have : pln (.lst (T.map tP)) = true := by
  show (T.map tP).all (Ci.plain 8) = true
  simp only [List.all_eq_true, List.mem_map]
  rintro _ ⟨t, _, rfl⟩
  rfl
 unfold opNe
 rw [this]
 cases T <;> rfl
theorem ngI {F : Fns} {env : Sl} {i : Int} : evE F (.neg (.cst (.int i))) env = .ok (.int (-i)) := by
 rw [evE, evE]
 rfl
theorem any_ok (F : Fns) (hp : PickOk F) (ns : List Int) (k : Int) (hk : 0 ≤ k) {rows : List Str} {w : Nat} (L : Fl rows w) : ∃ a b, runD F d__law_any_spot [scr ns, .int k, fl rows] = .ok (sp a b) := by
 obtain ⟨z, f1, f2, f3⟩ := fl0 L
 obtain ⟨a, ea, _⟩ := hp ns k ((rows.length : Int) + 2) hk (by omega)
 obtain ⟨b, eb, _⟩ := hp ns (k + 1) ((z.length : Int) + 2) (by omega) (by omega)
 refine ⟨a - 1, b - 1, ?_⟩
 simp only [d__law_any_spot, runD, exSs, exS, evE, evEs, evO, evI, capt, tyOp, isTy, List.replicate, Nat.reduceAdd, Nat.reduceSub, reduceIte, ite_true, ite_false, J, J2, List.length_map, ea, f1, f3, eb]
theorem word_ok (F : Fns) : runD F d__law_word [.exc "NoWay"] = .ok (.str "no way") := by
 rfl
end K03
set_option maxHeartbeats 4000000
namespace K03
open PySem L2 Ci K71
theorem slL {xs : List PV} {lo hi : Option Int} : sliceOp (.lst xs) lo hi = .ok (.lst (cutP xs lo hi)) := id rfl
theorem eoN {F : Fns} {env : Sl} : evO F .no env = .ok none := by rw [evO]
def SumOk (F : Fns) : Prop := ∀ rows w, Fl rows w → ∀ sl cl pr, Wk cl pr → ∀ th, Th th → F "_law_sum" [fl rows, wk sl cl pr, th] = .ok (oP (dueT rows sl cl pr th))
theorem eq_nilN (L : List (Nat × Nat)) : opEq (.lst (L.map spN)) (.lst []) = .ok (.bl L.isEmpty) := by
 have : pln (.lst (L.map spN)) = true := by
  show (L.map spN).all (Ci.plain 8) = true
  simp only [List.all_eq_true, List.mem_map]
  rintro _ ⟨t, _, rfl⟩
  rfl
 unfold opEq
 rw [this]
 cases L <;> rfl
end K03
set_option maxHeartbeats 4000000
namespace K20
open PySem L2 Ci K71 K03
abbrev d__law_cell : Def := K03.d__law_cell
abbrev d__law_pick : Def := K03.d__law_pick
abbrev d__law_floor : Def := K03.d__law_floor
abbrev d__law_walker : Def := K03.d__law_walker
abbrev d__law_spots : Def := K03.d__law_spots
abbrev d__law_any_spot : Def := K03.d__law_any_spot
abbrev d__law_cost : Def := K03.d__law_cost
abbrev d__law_steps : Def := K03.d__law_steps
abbrev d__law_sum : Def := K03.d__law_sum
def d__law_led : Def := ⟨["_law_floor_here", "_law_walker_here", "_law_start", "_law_runs_here", "_law_way", "_law_name_here", "_law_many", "_law_k", "_law_down"], 4, (.cons (.own 4 (.lst (.cons (.var 2) .nil)))
 (.cons (.for_ (.two 5 6) (.seq (.var 3))
  (.cons (.for_ (.one 7) (.rng (.var 6))
   (.cons (.set 8 (.bin .sub (.mth .countS (.var 5) (.cons (.cst (.str "s")) .nil)) (.mth .countS (.var 5) (.cons (.cst (.str "n")) .nil))))
   (.cons (.app 4 (.tup (.cons (.bin .add (.sub (.sub (.tmp 4) (.neg (.cst (.int 1)))) (.cst (.int 0))) (.var 8)) (.cons (.bin .sub (.bin .add (.sub (.sub (.tmp 4) (.neg (.cst (.int 1)))) (.cst (.int 1))) (.mth .countS (.var 5) (.cons (.cst (.str "e")) .nil))) (.mth .countS (.var 5) (.cons (.cst (.str "w")) .nil))) .nil))))
   .nil)))
  .nil))
 (.cons (.frz 4)
 (.cons (.ret (.ite (.cmp .is (.call "_law_sum" (.cons (.var 0) (.cons (.var 1) (.cons (.var 4) .nil)))) (.cst .non)) (.cst (.str "no way")) (.var 4)))
 .nil))))⟩
abbrev d__law_word : Def := K03.d__law_word
abbrev d_is_whole : Def := K03.d_is_whole
abbrev d_is_spot : Def := K03.d_is_spot
abbrev d_is_on_floor : Def := K03.d_is_on_floor
abbrev d_is_open : Def := K03.d_is_open
abbrev d_is_list_of_open_spots : Def := K03.d_is_list_of_open_spots
abbrev d_are_beside : Def := K03.d_are_beside
abbrev d_need_open : Def := K03.d_need_open
abbrev d_height_at : Def := K03.d_height_at
abbrev d_has_open_corners : Def := K03.d_has_open_corners
abbrev d_step_cost : Def := K03.d_step_cost
abbrev d_costs_along : Def := K03.d_costs_along
abbrev d_is_way : Def := K03.d_is_way
abbrev d_need_way : Def := K03.d_need_way
def d_direction_of : Def := ⟨["one", "other", "along", "across"], 2, (.cons (.set 2 (.ite (.cmp .lt (.sub (.var 1) (.cst (.int 0))) (.sub (.var 0) (.cst (.int 0)))) (.cst (.str "n")) (.cst (.str "s"))))
 (.cons (.set 3 (.ite (.cmp .lt (.sub (.var 1) (.cst (.int 1))) (.sub (.var 0) (.cst (.int 1)))) (.cst (.str "w")) (.cst (.str "e"))))
 (.cons (.ret (.bin .add (.ite (.cmp .ne (.sub (.var 1) (.cst (.int 0))) (.sub (.var 0) (.cst (.int 0)))) (.var 2) (.cst (.str ""))) (.ite (.cmp .ne (.sub (.var 1) (.cst (.int 1))) (.sub (.var 0) (.cst (.int 1)))) (.var 3) (.cst (.str "")))))
 .nil)))⟩
def d_runs_of : Def := ⟨["floor", "walker", "way", "runs", "one", "other", "direction"], 3, (.cons (.expr (.call "need_way" (.cons (.var 0) (.cons (.var 1) (.cons (.var 2) .nil)))))
 (.cons (.own 3 (.lst .nil))
 (.cons (.for_ (.two 4 5) (.zip (.var 2) (.slice (.var 2) (.some (.cst (.int 1))) .no))
  (.cons (.set 6 (.call "direction_of" (.cons (.var 4) (.cons (.var 5) .nil))))
  (.cons (.ite (.and (.cmp .gt (.blt .len (.cons (.tmp 3) .nil)) (.cst (.int 0))) (.cmp .eq (.sub (.sub (.tmp 3) (.neg (.cst (.int 1)))) (.cst (.int 0))) (.var 6)))
   (.cons (.put 3 (.neg (.cst (.int 1))) (.tup (.cons (.var 6) (.cons (.bin .add (.sub (.sub (.tmp 3) (.neg (.cst (.int 1)))) (.cst (.int 1))) (.cst (.int 1))) .nil))))
   .nil)
   (.cons (.app 3 (.tup (.cons (.var 6) (.cons (.cst (.int 1)) .nil))))
   .nil))
  .nil)))
 (.cons (.frz 3)
 (.cons (.ret (.var 3))
 .nil)))))⟩
def d_spot_beside : Def := ⟨["spot", "direction", "row", "column"], 2, (.cons (.set 2 (.bin .sub (.bin .add (.sub (.var 0) (.cst (.int 0))) (.mth .countS (.var 1) (.cons (.cst (.str "s")) .nil))) (.mth .countS (.var 1) (.cons (.cst (.str "n")) .nil))))
 (.cons (.set 3 (.bin .sub (.bin .add (.sub (.var 0) (.cst (.int 1))) (.mth .countS (.var 1) (.cons (.cst (.str "e")) .nil))) (.mth .countS (.var 1) (.cons (.cst (.str "w")) .nil))))
 (.cons (.ret (.tup (.cons (.var 2) (.cons (.var 3) .nil))))
 .nil)))⟩
def d_after_step : Def := ⟨["floor", "walker", "spot", "direction", "other"], 4, (.cons (.set 4 (.call "spot_beside" (.cons (.var 2) (.cons (.var 3) .nil))))
 (.cons (.ite (.or (.not (.call "is_open" (.cons (.var 0) (.cons (.var 4) .nil)))) (.cmp .is (.call "step_cost" (.cons (.var 0) (.cons (.var 1) (.cons (.var 2) (.cons (.var 4) .nil))))) (.cst .non)))
  (.cons (.raise "NoWay" "no step leads on in this direction")
  .nil)
  .nil)
 (.cons (.ret (.var 4))
 .nil)))⟩
def d_way_by : Def := ⟨["floor", "walker", "start", "runs", "way", "direction", "how_many", "step"], 4, (.cons (.expr (.call "need_open" (.cons (.var 0) (.cons (.var 2) .nil))))
 (.cons (.own 4 (.lst (.cons (.var 2) .nil)))
 (.cons (.for_ (.two 5 6) (.seq (.var 3))
  (.cons (.ite (.cmp .nin (.var 5) (.glob "DIRECTIONS" (.tup [(.str "n"), (.str "s"), (.str "w"), (.str "e"), (.str "ne"), (.str "nw"), (.str "se"), (.str "sw")])))
   (.cons (.raise "NoWay" "this is no direction")
   .nil)
   .nil)
  (.cons (.for_ (.one 7) (.rng (.var 6))
   (.cons (.app 4 (.call "after_step" (.cons (.var 0) (.cons (.var 1) (.cons (.sub (.tmp 4) (.neg (.cst (.int 1)))) (.cons (.var 5) .nil))))))
   .nil))
  .nil)))
 (.cons (.frz 4)
 (.cons (.ret (.var 4))
 .nil)))))⟩
def d__law_tried : Def := ⟨["_law_what", "_law_floor_here", "_law_walker_here", "_law_start", "_law_thing", "_law_kept", "_law_answer", "e"], 5, (.cons (.set 5 (.cst .non))
 (.cons (.set 6 (.cst .non))
 (.cons (.tryx (.cons (.set 6 (.ite (.cmp .eq (.var 0) (.cst (.int 0))) (.call "runs_of" (.cons (.var 1) (.cons (.var 2) (.cons (.var 4) .nil)))) (.call "way_by" (.cons (.var 1) (.cons (.var 2) (.cons (.var 3) (.cons (.var 4) .nil)))))))
  .nil) "FloorError" 7 5)
 (.cons (.ite (.cmp .is (.var 5) (.cst .non))
  (.cons (.ret (.var 6))
  .nil)
  .nil)
 (.cons (.ret (.call "_law_word" (.cons (.var 5) .nil)))
 .nil)))))⟩
def d__law_name : Def := ⟨["_law_spot", "_law_goal"], 2, (.cons (.ret (.bin .add (.sub (.lst (.cons (.cst (.str "n")) (.cons (.cst (.str "")) (.cons (.cst (.str "s")) .nil)))) (.bin .add (.bin .sub (.sub (.var 1) (.cst (.int 0))) (.sub (.var 0) (.cst (.int 0)))) (.cst (.int 1)))) (.sub (.lst (.cons (.cst (.str "w")) (.cons (.cst (.str "")) (.cons (.cst (.str "e")) .nil)))) (.bin .add (.bin .sub (.sub (.var 1) (.cst (.int 1))) (.sub (.var 0) (.cst (.int 1)))) (.cst (.int 1))))))
 .nil)⟩
def d__law_runs : Def := ⟨["_law_way", "_law_made", "_law_k", "_law_goal", "_law_name_here"], 1, (.cons (.own 1 (.lst .nil))
 (.cons (.for_ (.two 2 3) (.enum (.slice (.var 0) (.some (.cst (.int 1))) .no))
  (.cons (.set 4 (.call "_law_name" (.cons (.sub (.var 0) (.var 2)) (.cons (.var 3) .nil))))
  (.cons (.ite (.and (.cmp .ne (.tmp 1) (.lst .nil)) (.cmp .eq (.sub (.sub (.tmp 1) (.neg (.cst (.int 1)))) (.cst (.int 0))) (.var 4)))
   (.cons (.put 1 (.neg (.cst (.int 1))) (.tup (.cons (.var 4) (.cons (.bin .add (.sub (.sub (.tmp 1) (.neg (.cst (.int 1)))) (.cst (.int 1))) (.cst (.int 1))) .nil))))
   .nil)
   (.cons (.app 1 (.tup (.cons (.var 4) (.cons (.cst (.int 1)) .nil))))
   .nil))
  .nil)))
 (.cons (.frz 1)
 (.cons (.ret (.var 1))
 .nil))))⟩
def oTail : Ss := (.cons (.ite (.cmp .ne (.call "_law_tried" (.cons (.cst (.int 1)) (.cons (.var 1) (.cons (.var 2) (.cons (.var 4) (.cons (.var 5) .nil)))))) (.var 8))
 (.cons (.ret (.cst (.bl false)))
 .nil)
 .nil)
 (.cons (.ite (.cmp .eq (.var 3) (.lst .nil))
  (.cons (.ret (.cmp .eq (.call "_law_tried" (.cons (.cst (.int 0)) (.cons (.var 1) (.cons (.var 2) (.cons (.var 4) (.cons (.lst .nil) .nil)))))) (.cst (.str "no way"))))
  .nil)
  .nil)
 (.cons (.own 9 (.lst (.cons (.sub (.var 3) (.call "_law_pick" (.cons (.var 0) (.cons (.cst (.int 66)) (.cons (.blt .len (.cons (.var 3) .nil)) .nil))))) .nil)))
 (.cons (.for_ (.one 6) (.rng (.call "_law_pick" (.cons (.var 0) (.cons (.cst (.int 67)) (.cons (.cst (.int 10)) .nil)))))
  (.cons (.set 10 (.call "_law_steps" (.cons (.var 1) (.cons (.var 2) (.cons (.sub (.tmp 9) (.neg (.cst (.int 1)))) .nil)))))
  (.cons (.ite (.cmp .ne (.var 10) (.lst .nil))
   (.cons (.app 9 (.sub (.sub (.var 10) (.bin .fdiv (.call "_law_pick" (.cons (.var 0) (.cons (.bin .add (.cst (.int 68)) (.var 6)) (.cons (.blt .len (.cons (.var 10) .nil)) .nil)))) (.cst (.int 2)))) (.cst (.int 0))))
   .nil)
   .nil)
  .nil)))
 (.cons (.frz 9)
 (.cons (.ite (.cmp .ne (.call "_law_tried" (.cons (.cst (.int 0)) (.cons (.var 1) (.cons (.var 2) (.cons (.var 4) (.cons (.var 9) .nil)))))) (.call "_law_runs" (.cons (.var 9) .nil)))
  (.cons (.ret (.cst (.bl false)))
  .nil)
  .nil)
 (.cons (.frz 9)
 (.cons (.ite (.cmp .ne (.call "_law_tried" (.cons (.cst (.int 1)) (.cons (.var 1) (.cons (.var 2) (.cons (.sub (.tmp 9) (.cst (.int 0))) (.cons (.call "_law_runs" (.cons (.var 9) .nil)) .nil)))))) (.tmp 9))
  (.cons (.ret (.cst (.bl false)))
  .nil)
  .nil)
 (.cons (.set 11 (.bin .add (.tmp 9) (.lst (.cons (.tup (.cons (.bin .add (.sub (.sub (.tmp 9) (.neg (.cst (.int 1)))) (.cst (.int 0))) (.cst (.int 2))) (.cons (.sub (.sub (.tmp 9) (.neg (.cst (.int 1)))) (.cst (.int 1))) .nil))) .nil))))
 (.cons (.ret (.cmp .eq (.comp 1 [2, 4, 1] (.one 0) (.seq (.tup (.cons (.var 11) (.cons (.blt .tuple (.cons (.tmp 9) .nil)) .nil)))) (.call "_law_tried" (.cons (.cst (.int 0)) (.cons (.var 3) (.cons (.var 1) (.cons (.var 2) (.cons (.var 0) .nil))))))) (.bin .mul (.lst (.cons (.cst (.str "no way")) .nil)) (.cst (.int 2)))))
 .nil))))))))))
def d__law_once : Def := ⟨["_law_script", "_law_floor_here", "_law_walker_here", "_law_spots_here", "_law_start", "_law_runs_here", "_law_k", "_law_name_here", "_law_due", "_law_way", "_law_steps_here", "_law_bad"], 1, (.cons (.set 1 (.call "_law_floor" (.cons (.var 0) (.cons (.cst (.int 0)) (.cons (.cst (.int 6)) .nil)))))
 (.cons (.set 2 (.call "_law_walker" (.cons (.var 0) (.cons (.cst (.int 50)) .nil))))
 (.cons (.set 3 (.call "_law_spots" (.cons (.var 1) .nil)))
 (.cons (.set 4 (.call "_law_any_spot" (.cons (.var 0) (.cons (.cst (.int 55)) (.cons (.var 1) .nil)))))
 (.cons (.own 5 (.lst .nil))
 (.cons (.for_ (.one 6) (.rng (.call "_law_pick" (.cons (.var 0) (.cons (.cst (.int 57)) (.cons (.cst (.int 4)) .nil)))))
  (.cons (.set 7 (.sub (.lst (.cons (.cst (.str "n")) (.cons (.cst (.str "ne")) (.cons (.cst (.str "e")) (.cons (.cst (.str "se")) (.cons (.cst (.str "s")) (.cons (.cst (.str "sw")) (.cons (.cst (.str "w")) (.cons (.cst (.str "nw")) .nil))))))))) (.call "_law_pick" (.cons (.var 0) (.cons (.bin .add (.cst (.int 58)) (.var 6)) (.cons (.cst (.int 8)) .nil))))))
  (.cons (.app 5 (.tup (.cons (.var 7) (.cons (.call "_law_pick" (.cons (.var 0) (.cons (.bin .add (.cst (.int 62)) (.var 6)) (.cons (.cst (.int 4)) .nil)))) .nil))))
  .nil)))
 (.cons (.set 8 (.cst (.str "no spot")))
 (.cons (.ite (.cmp .in_ (.var 4) (.var 3))
  (.cons (.frz 5)
  (.cons (.set 8 (.call "_law_led" (.cons (.var 1) (.cons (.var 2) (.cons (.var 4) (.cons (.var 5) .nil))))))
  .nil))
  .nil)
 (.cons (.frz 5)
 oTail)))))))))⟩
def d_law : Def := ⟨["_law_script", "_law_turn"], 1, (.cons (.for_ (.one 1) (.rng (.cst (.int 7)))
 (.cons (.ite (.not (.call "_law_once" (.cons (.comp 1 [1] (.one 0) (.seq (.var 0)) (.bin .add (.var 0) (.bin .mul (.cst (.int 7919)) (.var 1)))) .nil)))
  (.cons (.ret (.cst (.bl false)))
  .nil)
  .nil)
 (.cons (.ite (.cmp .eq (.var 0) (.lst .nil))
  (.cons .brk
  .nil)
  .nil)
 .nil)))
 (.cons (.ret (.cst (.bl true)))
 .nil))⟩
def T0 : List (Str × Def) := []
def T1 : List (Str × Def) := (("_law_cell" : Str), d__law_cell) :: T0
def T2 : List (Str × Def) := (("_law_pick" : Str), d__law_pick) :: T1
def T3 : List (Str × Def) := (("_law_floor" : Str), d__law_floor) :: T2
def T4 : List (Str × Def) := (("_law_walker" : Str), d__law_walker) :: T3
def T5 : List (Str × Def) := (("_law_spots" : Str), d__law_spots) :: T4
def T6 : List (Str × Def) := (("_law_any_spot" : Str), d__law_any_spot) :: T5
def T7 : List (Str × Def) := (("_law_cost" : Str), d__law_cost) :: T6
def T8 : List (Str × Def) := (("_law_steps" : Str), d__law_steps) :: T7
def T9 : List (Str × Def) := (("_law_sum" : Str), d__law_sum) :: T8
def T10 : List (Str × Def) := (("_law_led" : Str), d__law_led) :: T9
def T11 : List (Str × Def) := (("_law_word" : Str), d__law_word) :: T10
def T12 : List (Str × Def) := (("is_whole" : Str), d_is_whole) :: T11
def T13 : List (Str × Def) := (("is_spot" : Str), d_is_spot) :: T12
def T14 : List (Str × Def) := (("is_on_floor" : Str), d_is_on_floor) :: T13
def T15 : List (Str × Def) := (("is_open" : Str), d_is_open) :: T14
def T16 : List (Str × Def) := (("is_list_of_open_spots" : Str), d_is_list_of_open_spots) :: T15
def T17 : List (Str × Def) := (("are_beside" : Str), d_are_beside) :: T16
def T18 : List (Str × Def) := (("need_open" : Str), d_need_open) :: T17
def T19 : List (Str × Def) := (("height_at" : Str), d_height_at) :: T18
def T20 : List (Str × Def) := (("has_open_corners" : Str), d_has_open_corners) :: T19
def T21 : List (Str × Def) := (("step_cost" : Str), d_step_cost) :: T20
def T22 : List (Str × Def) := (("costs_along" : Str), d_costs_along) :: T21
def T23 : List (Str × Def) := (("is_way" : Str), d_is_way) :: T22
def T24 : List (Str × Def) := (("need_way" : Str), d_need_way) :: T23
def T25 : List (Str × Def) := (("direction_of" : Str), d_direction_of) :: T24
def T26 : List (Str × Def) := (("runs_of" : Str), d_runs_of) :: T25
def T27 : List (Str × Def) := (("spot_beside" : Str), d_spot_beside) :: T26
def T28 : List (Str × Def) := (("after_step" : Str), d_after_step) :: T27
def T29 : List (Str × Def) := (("way_by" : Str), d_way_by) :: T28
def T30 : List (Str × Def) := (("_law_tried" : Str), d__law_tried) :: T29
def T31 : List (Str × Def) := (("_law_name" : Str), d__law_name) :: T30
def T32 : List (Str × Def) := (("_law_runs" : Str), d__law_runs) :: T31
def T33 : List (Str × Def) := (("_law_once" : Str), d__law_once) :: T32
theorem dT1_1 : den T1 "_law_cell" = runD (den T0) d__law_cell := (den_skip 0 (by decide +kernel)).trans den_eq
theorem dT2_2 : den T2 "_law_pick" = runD (den T1) d__law_pick := (den_skip 0 (by decide +kernel)).trans den_eq
theorem dT3_2 : den T3 "_law_pick" = runD (den T1) d__law_pick := (den_skip 1 (by decide +kernel)).trans den_eq
theorem dT5_2 : den T5 "_law_pick" = runD (den T1) d__law_pick := (den_skip 3 (by decide +kernel)).trans den_eq
theorem dT7_7 : den T7 "_law_cost" = runD (den T6) d__law_cost := (den_skip 0 (by decide +kernel)).trans den_eq
theorem dT8_5 : den T8 "_law_spots" = runD (den T4) d__law_spots := (den_skip 3 (by decide +kernel)).trans den_eq
theorem dT8_8 : den T8 "_law_steps" = runD (den T7) d__law_steps := (den_skip 0 (by decide +kernel)).trans den_eq
theorem dT9_9 : den T9 "_law_sum" = runD (den T8) d__law_sum := (den_skip 0 (by decide +kernel)).trans den_eq
theorem dT12_12 : den T12 "is_whole" = runD (den T11) d_is_whole := (den_skip 0 (by decide +kernel)).trans den_eq
theorem dT14_13 : den T14 "is_spot" = runD (den T12) d_is_spot := (den_skip 1 (by decide +kernel)).trans den_eq
theorem dT14_14 : den T14 "is_on_floor" = runD (den T13) d_is_on_floor := (den_skip 0 (by decide +kernel)).trans den_eq
theorem dT15_15 : den T15 "is_open" = runD (den T14) d_is_open := (den_skip 0 (by decide +kernel)).trans den_eq
theorem dT17_15 : den T17 "is_open" = runD (den T14) d_is_open := (den_skip 2 (by decide +kernel)).trans den_eq
theorem dT18_18 : den T18 "need_open" = runD (den T17) d_need_open := (den_skip 0 (by decide +kernel)).trans den_eq
theorem dT19_15 : den T19 "is_open" = runD (den T14) d_is_open := (den_skip 4 (by decide +kernel)).trans den_eq
theorem dT20_17 : den T20 "are_beside" = runD (den T16) d_are_beside := (den_skip 3 (by decide +kernel)).trans den_eq
theorem dT20_19 : den T20 "height_at" = runD (den T18) d_height_at := (den_skip 1 (by decide +kernel)).trans den_eq
theorem dT20_20 : den T20 "has_open_corners" = runD (den T19) d_has_open_corners := (den_skip 0 (by decide +kernel)).trans den_eq
theorem dT21_21 : den T21 "step_cost" = runD (den T20) d_step_cost := (den_skip 0 (by decide +kernel)).trans den_eq
theorem dT22_16 : den T22 "is_list_of_open_spots" = runD (den T15) d_is_list_of_open_spots := (den_skip 6 (by decide +kernel)).trans den_eq
theorem dT22_22 : den T22 "costs_along" = runD (den T21) d_costs_along := (den_skip 0 (by decide +kernel)).trans den_eq
theorem dT23_23 : den T23 "is_way" = runD (den T22) d_is_way := (den_skip 0 (by decide +kernel)).trans den_eq
theorem dT25_24 : den T25 "need_way" = runD (den T23) d_need_way := (den_skip 1 (by decide +kernel)).trans den_eq
theorem dT25_25 : den T25 "direction_of" = runD (den T24) d_direction_of := (den_skip 0 (by decide +kernel)).trans den_eq
theorem dT27_27 : den T27 "spot_beside" = runD (den T26) d_spot_beside := (den_skip 0 (by decide +kernel)).trans den_eq
theorem dT27_15 : den T27 "is_open" = runD (den T14) d_is_open := (den_skip 12 (by decide +kernel)).trans den_eq
theorem dT27_21 : den T27 "step_cost" = runD (den T20) d_step_cost := (den_skip 6 (by decide +kernel)).trans den_eq
theorem dT28_18 : den T28 "need_open" = runD (den T17) d_need_open := (den_skip 10 (by decide +kernel)).trans den_eq
theorem dT28_28 : den T28 "after_step" = runD (den T27) d_after_step := (den_skip 0 (by decide +kernel)).trans den_eq
theorem dT29_11 : den T29 "_law_word" = runD (den T10) d__law_word := (den_skip 18 (by decide +kernel)).trans den_eq
theorem dT29_26 : den T29 "runs_of" = runD (den T25) d_runs_of := (den_skip 3 (by decide +kernel)).trans den_eq
theorem dT29_29 : den T29 "way_by" = runD (den T28) d_way_by := (den_skip 0 (by decide +kernel)).trans den_eq
theorem dT31_31 : den T31 "_law_name" = runD (den T30) d__law_name := (den_skip 0 (by decide +kernel)).trans den_eq
theorem dT32_3 : den T32 "_law_floor" = runD (den T2) d__law_floor := (den_skip 29 (by decide +kernel)).trans den_eq
theorem dT32_4 : den T32 "_law_walker" = runD (den T3) d__law_walker := (den_skip 28 (by decide +kernel)).trans den_eq
theorem dT32_5 : den T32 "_law_spots" = runD (den T4) d__law_spots := (den_skip 27 (by decide +kernel)).trans den_eq
theorem dT32_6 : den T32 "_law_any_spot" = runD (den T5) d__law_any_spot := (den_skip 26 (by decide +kernel)).trans den_eq
theorem dT32_2 : den T32 "_law_pick" = runD (den T1) d__law_pick := (den_skip 30 (by decide +kernel)).trans den_eq
theorem dT32_10 : den T32 "_law_led" = runD (den T9) d__law_led := (den_skip 22 (by decide +kernel)).trans den_eq
theorem dT32_30 : den T32 "_law_tried" = runD (den T29) d__law_tried := (den_skip 2 (by decide +kernel)).trans den_eq
theorem dT32_8 : den T32 "_law_steps" = runD (den T7) d__law_steps := (den_skip 24 (by decide +kernel)).trans den_eq
theorem dT32_32 : den T32 "_law_runs" = runD (den T31) d__law_runs := (den_skip 0 (by decide +kernel)).trans den_eq
theorem dT33_33 : den T33 "_law_once" = runD (den T32) d__law_once := (den_skip 0 (by decide +kernel)).trans den_eq
end K20
set_option maxHeartbeats 4000000
namespace K20
open PySem L2 Ci K71 K03
def sg (a b : Str) (d : Int) : Str := if d = 0 then "" else if d < 0 then a else b
def nm (r c : Int) : Str := sg "n" "s" r ++ sg "w" "e" c
theorem eSt {x y : Str} : opEq (.str x) (.str y) = .ok (.bl (x == y)) := id rfl
theorem dir_ok (F : Fns) (r c r' c' : Int) : runD F d_direction_of [sp r c, sp r' c'] = .ok (.str (nm (r' - r) (c' - c))) := by
 have k1 : r' = r ∨ (r' < r ∧ ¬ r' = r) ∨ (¬ r' < r ∧ ¬ r' = r) := by omega
 have k2 : c' = c ∨ (c' < c ∧ ¬ c' = c) ∨ (¬ c' < c ∧ ¬ c' = c) := by omega
 have s1 : nm (r' - r) (c' - c) = sg "n" "s" (r' - r) ++ sg "w" "e" (c' - c) := rfl
 have t0 : ∀ {a b : Str}, sg a b 0 = "" := rfl
 have t1 : ∀ {a b : Str} {x y : Int}, x < y → sg a b (x - y) = a := fun {a b x y} h => by unfold sg; rw [if_neg (by omega), if_pos (by omega)]
 have t2 : ∀ {a b : Str} {x y : Int}, ¬ x < y → ¬ x = y → sg a b (x - y) = b := fun {a b x y} h h' => by unfold sg; rw [if_neg (by omega), if_neg (by omega)]
 have bf : ∀ {x y : Int}, ¬ x = y → (x == y) = false := fun h => by simpa using h
 rw [s1]
 rcases k1 with rfl | ⟨a1, a2⟩ | ⟨a1, a2⟩
 ·rcases k2 with rfl | ⟨a3, a4⟩ | ⟨a3, a4⟩
  ·rw [Int.sub_self, Int.sub_self, t0, t0]
   simp only [d_direction_of, runD, exSs, exS, evE, evEs, evO, evI, capt, tyOp, isTy, List.replicate, Nat.reduceAdd, Nat.reduceSub, reduceIte, ite_true, ite_false, J, J2, Int.lt_irrefl, decide_false, beq_self_eq_true]
   rfl
  ·rw [Int.sub_self, t0, t1 a3]
   simp only [d_direction_of, runD, exSs, exS, evE, evEs, evO, evI, capt, tyOp, isTy, List.replicate, Nat.reduceAdd, Nat.reduceSub, reduceIte, ite_true, ite_false, J, J2, Int.lt_irrefl, decide_false, decide_true, beq_self_eq_true, a3, bf a4]
   rfl
  ·rw [Int.sub_self, t0, t2 a3 a4]
   simp only [d_direction_of, runD, exSs, exS, evE, evEs, evO, evI, capt, tyOp, isTy, List.replicate, Nat.reduceAdd, Nat.reduceSub, reduceIte, ite_true, ite_false, J, J2, Int.lt_irrefl, decide_false, decide_true, beq_self_eq_true, a3, bf a4]
   rfl
 ·rcases k2 with rfl | ⟨a3, a4⟩ | ⟨a3, a4⟩
  ·rw [Int.sub_self, t0, t1 a1]
   simp only [d_direction_of, runD, exSs, exS, evE, evEs, evO, evI, capt, tyOp, isTy, List.replicate, Nat.reduceAdd, Nat.reduceSub, reduceIte, ite_true, ite_false, J, J2, Int.lt_irrefl, decide_false, decide_true, beq_self_eq_true, a1, bf a2]
   rfl
  ·rw [t1 a1, t1 a3]
   simp only [d_direction_of, runD, exSs, exS, evE, evEs, evO, evI, capt, tyOp, isTy, List.replicate, Nat.reduceAdd, Nat.reduceSub, reduceIte, ite_true, ite_false, J, J2, decide_false, decide_true, a1, bf a2, a3, bf a4]
   rfl
  ·rw [t1 a1, t2 a3 a4]
   simp only [d_direction_of, runD, exSs, exS, evE, evEs, evO, evI, capt, tyOp, isTy, List.replicate, Nat.reduceAdd, Nat.reduceSub, reduceIte, ite_true, ite_false, J, J2, decide_false, decide_true, a1, bf a2, a3, bf a4]
   rfl
 ·rcases k2 with rfl | ⟨a3, a4⟩ | ⟨a3, a4⟩
  ·rw [Int.sub_self, t0, t2 a1 a2]
   simp only [d_direction_of, runD, exSs, exS, evE, evEs, evO, evI, capt, tyOp, isTy, List.replicate, Nat.reduceAdd, Nat.reduceSub, reduceIte, ite_true, ite_false, J, J2, Int.lt_irrefl, decide_false, decide_true, beq_self_eq_true, a1, bf a2]
   rfl
  ·rw [t2 a1 a2, t1 a3]
   simp only [d_direction_of, runD, exSs, exS, evE, evEs, evO, evI, capt, tyOp, isTy, List.replicate, Nat.reduceAdd, Nat.reduceSub, reduceIte, ite_true, ite_false, J, J2, decide_false, decide_true, a1, bf a2, a3, bf a4]
   rfl
  ·rw [t2 a1 a2, t2 a3 a4]
   simp only [d_direction_of, runD, exSs, exS, evE, evEs, evO, evI, capt, tyOp, isTy, List.replicate, Nat.reduceAdd, Nat.reduceSub, reduceIte, ite_true, ite_false, J, J2, decide_false, decide_true, a1, bf a2, a3, bf a4]
   rfl
theorem name_ok (F : Fns) (r c r' c' : Int) (h1 : -1 ≤ r' - r) (h2 : r' - r ≤ 1) (h3 : -1 ≤ c' - c) (h4 : c' - c ≤ 1) : runD F d__law_name [sp r c, sp r' c'] = .ok (.str (nm (r' - r) (c' - c))) := by
 simp only [d__law_name, runD, exSs, exS, evE, evEs, evO, evI, capt, tyOp, isTy, List.replicate, Nat.reduceAdd, Nat.reduceSub, reduceIte, ite_true, ite_false, J, J2]
 generalize r' - r = a at h1 h2
 generalize c' - c = b at h3 h4
 have ha : a = -1 ∨ a = 0 ∨ a = 1 := by omega
 have hb : b = -1 ∨ b = 0 ∨ b = 1 := by omega
 rcases ha with rfl | rfl | rfl <;> rcases hb with rfl | rfl | rfl <;> rfl
def nx (p : Int × Int) (d : Str) : Int × Int := (p.1 + cntQ d "s" - cntQ d "n", p.2 + cntQ d "e" - cntQ d "w")
def dirs : List Str := ["n", "s", "w", "e", "ne", "nw", "se", "sw"]
theorem cS {z y : Str} : mthOp .countS [.str z, .str y] = .ok (.int (cntQ z y)) := id rfl
theorem kS {z : Str} : mKind .countS (.str z) = true := id rfl
theorem beside_sp (F : Fns) (p : Int × Int) (d : Str) : runD F d_spot_beside [spP p, .str d] = .ok (spP (nx p d)) := by
 simp only [d_spot_beside, runD, exSs, exS, evE, evEs, evO, evI, capt, tyOp, isTy, List.replicate, Nat.reduceAdd, Nat.reduceSub, reduceIte, ite_true, ite_false, J, J2, kS, cS]
 rfl
theorem nx_nm (p : Int × Int) {a b : Int} (h1 : -1 ≤ a) (h2 : a ≤ 1) (h3 : -1 ≤ b) (h4 : b ≤ 1) : nx p (nm a b) = (p.1 + a, p.2 + b) := by
 have ha : a = -1 ∨ a = 0 ∨ a = 1 := by omega
 have hb : b = -1 ∨ b = 0 ∨ b = 1 := by omega
 have k : ∀ (d : Str) (x y : Int), cntQ d "s" - cntQ d "n" = x → cntQ d "e" - cntQ d "w" = y → nx p d = (p.1 + x, p.2 + y) := fun d x y e1 e2 => by
  unfold nx
  rw [← e1, ← e2, Int.add_sub_assoc, Int.add_sub_assoc]
 rcases ha with rfl | rfl | rfl <;> rcases hb with rfl | rfl | rfl <;> exact k _ _ _ (by decide +kernel) (by decide +kernel)
theorem nm_dirs {a b : Int} (h1 : -1 ≤ a) (h2 : a ≤ 1) (h3 : -1 ≤ b) (h4 : b ≤ 1) (h : ¬ (a = 0 ∧ b = 0)) : nm a b ∈ dirs := by
 have ha : a = -1 ∨ a = 0 ∨ a = 1 := by omega
 have hb : b = -1 ∨ b = 0 ∨ b = 1 := by omega
 rcases ha with rfl | rfl | rfl <;> rcases hb with rfl | rfl | rfl <;> first | exact absurd ⟨rfl, rfl⟩ h | decide +kernel
end K20
set_option maxHeartbeats 4000000
namespace K20
open PySem L2 Ci K71 K03
abbrev rP (x : Str × Int) : PV := .tup [.str x.1, .int x.2]
abbrev runP (R : List (Str × Int)) : PV := .lst (R.map rP)
def addR (R : List (Str × Int)) (d : Str) : List (Str × Int) := match R.getLast? with
 | some x => if x.1 == d then R.dropLast ++ [(d, x.2 + 1)] else R ++ [(d, 1)]
 | none => [(d, 1)]
theorem addR_nil (d : Str) : addR [] d = [(d, 1)] := rfl
theorem addR_snoc (R : List (Str × Int)) (x : Str × Int) (d : Str) : addR (R ++ [x]) d = if x.1 == d then R ++ [(d, x.2 + 1)] else R ++ [x] ++ [(d, 1)] := by
 unfold addR
 rw [List.getLast?_concat, List.dropLast_concat]
theorem snoc_or {α : Type} (R : List α) : R = [] ∨ ∃ R' x, R = R' ++ [x] := by
 cases R with
 | nil => exact .inl rfl
 | cons a l => exact .inr ⟨_, _, (List.dropLast_concat_getLast (l := a :: l) (by simp)).symm⟩
theorem addR_len (R : List (Str × Int)) (d : Str) : (addR R d).length ≤ R.length + 1 := by
 rcases snoc_or R with rfl | ⟨R', x, rfl⟩
 ·exact Nat.le_refl _
 ·rw [addR_snoc]
  split <;> simp
def flat (R : List (Str × Int)) : List Str := R.flatMap fun x => List.replicate x.2.toNat x.1
theorem flat_app (R S : List (Str × Int)) : flat (R ++ S) = flat R ++ flat S := List.flatMap_append
theorem flat_one (d : Str) (n : Int) : flat [(d, n)] = List.replicate n.toNat d := by simp [flat]
def GoodR (m : Nat) (R : List (Str × Int)) : Prop := ∀ x ∈ R, x.1 ∈ dirs ∧ 0 ≤ x.2 ∧ x.2 ≤ m
theorem addR_good {m : Nat} {R : List (Str × Int)} {d : Str} (h : GoodR m R) (hd : d ∈ dirs) : GoodR (m + 1) (addR R d) ∧ flat (addR R d) = flat R ++ [d] := by
 rcases snoc_or R with rfl | ⟨R', x, rfl⟩
 ·exact ⟨fun x hx => by rw [addR_nil, List.mem_singleton] at hx; subst hx; exact ⟨hd, by show (0 : Int) ≤ 1; decide, by show (1 : Int) ≤ _; omega⟩, rfl⟩
 ·have hx := h x (by simp)
  rw [addR_snoc]
  split
  ·rename_i he
   have he := eq_of_beq he
   constructor
   ·intro y hy
    rw [List.mem_append, List.mem_singleton] at hy
    rcases hy with hy | rfl
    ·have := h y (by simp [hy])
     exact ⟨this.1, this.2.1, by omega⟩
    ·exact ⟨hd, by show 0 ≤ x.2 + 1; omega, by show x.2 + 1 ≤ _; omega⟩
   ·obtain ⟨x1, x2⟩ := x
    simp only at he hx
    subst he
    rw [flat_app, flat_app, flat_one, flat_one, List.append_assoc, show (x2 + 1).toNat = x2.toNat + 1 by omega, List.replicate_succ']
  ·constructor
   ·intro y hy
    rw [List.mem_append, List.mem_singleton] at hy
    rcases hy with hy | rfl
    ·have := h y hy
     exact ⟨this.1, this.2.1, by omega⟩
    ·exact ⟨hd, by show (0 : Int) ≤ 1; decide, by show (1 : Int) ≤ _; omega⟩
   ·rw [flat_app (R' ++ [x]), flat_one]
    rfl
theorem fold_good : ∀ {ds : List Str} {m : Nat} {R : List (Str × Int)}, GoodR m R → (∀ d ∈ ds, d ∈ dirs) → GoodR (m + ds.length) (ds.foldl addR R) ∧ flat (ds.foldl addR R) = flat R ++ ds
 | [], m, R, h, _ => ⟨h, by simp⟩
 | d :: ds, m, R, h, hd => by
  obtain ⟨g, e⟩ := addR_good h (hd d (List.mem_cons_self ..))
  obtain ⟨g2, e2⟩ := fold_good (ds := ds) g fun x hx => hd x (List.mem_cons_of_mem _ hx)
  refine ⟨?_, ?_⟩
  ·rw [List.length_cons, show m + (ds.length + 1) = m + 1 + ds.length by omega]
   exact g2
  ·rw [List.foldl_cons, e2, e, List.append_assoc]
   rfl
def nms : List (Int × Int) → List Str
 | p :: q :: r => nm (q.1 - p.1) (q.2 - p.2) :: nms (q :: r)
 | _ => []
def runs (P : List (Int × Int)) : List (Str × Int) := (nms P).foldl addR []
theorem last1 (R : List (Str × Int)) (x : Str × Int) : subOp (runP (R ++ [x])) (.int (-1)) = .ok (rP x) := by
 show Res.of (atI ((R ++ [x]).map rP) (-1)) = _
 rw [List.map_append, List.map_singleton, K03.atI_last]
 rfl
theorem rP0 {x : Str × Int} : subOp (rP x) (.int 0) = .ok (.str x.1) := id rfl
theorem rP1 {x : Str × Int} : subOp (rP x) (.int 1) = .ok (.int x.2) := id rfl
theorem ixl (R : List (Str × Int)) (x : Str × Int) : ixN ((R ++ [x]).map rP).length (-1) = some R.length := by
 unfold ixN
 simp only [List.length_map, List.length_append, List.length_singleton]
 rw [if_neg (by decide), if_pos (by omega)]
 congr 1
 omega
theorem set_last (R : List (Str × Int)) (x y : Str × Int) : ((R ++ [x]).map rP).set R.length (rP y) = (R ++ [y]).map rP := by
 rw [List.map_append, List.map_append, List.map_singleton, List.set_append_right _ _ (by simp)]
 simp
theorem ne_nilR (R : List (Str × Int)) : opNe (runP R) (.lst []) = .ok (.bl (!R.isEmpty)) := by
 have : pln (runP R) = true := by
  show (R.map rP).all (Ci.plain 8) = true
  simp only [List.all_eq_true, List.mem_map]
  rintro _ ⟨t, _, rfl⟩
  rfl
 unfold opNe
 rw [this]
 cases R <;> rfl
def gBody : Ss := (.cons (.set 6 (.call "direction_of" (.cons (.var 4) (.cons (.var 5) .nil))))
 (.cons (.ite (.and (.cmp .gt (.blt .len (.cons (.tmp 3) .nil)) (.cst (.int 0))) (.cmp .eq (.sub (.sub (.tmp 3) (.neg (.cst (.int 1)))) (.cst (.int 0))) (.var 6)))
  (.cons (.put 3 (.neg (.cst (.int 1))) (.tup (.cons (.var 6) (.cons (.bin .add (.sub (.sub (.tmp 3) (.neg (.cst (.int 1)))) (.cst (.int 1))) (.cst (.int 1))) .nil))))
  .nil)
  (.cons (.app 3 (.tup (.cons (.var 6) (.cons (.cst (.int 1)) .nil))))
  .nil))
 .nil))
def DirOk (F : Fns) : Prop := ∀ p q : Int × Int, F "direction_of" [spP p, spP q] = .ok (.str (nm (q.1 - p.1) (q.2 - p.2)))
theorem gbody_ok (F : Fns) (hd : DirOk F) (A B C : PV) (R : List (Str × Int)) (hR : R.length ≤ 100) (p q : Int × Int) (s4 s5 s6 : Ci.Slot) :
 ((Tg.two 4 5).put (.tup [spP p, spP q]) [.val A, .val B, .val C, .own (runP R), s4, s5, s6]).bind (fun env' => exSs F gBody env') = .ok (.nx [.val A, .val B, .val C, .own (runP (addR R (nm (q.1 - p.1) (q.2 - p.2)))), .val (spP p), .val (spP q), .val (.str (nm (q.1 - p.1) (q.2 - p.2)))]) := by
 have e := hd p q
 generalize nm (q.1 - p.1) (q.2 - p.2) = d at e
 have hl : R.length < LIM := Nat.lt_of_le_of_lt hR (by decide)
 rcases snoc_or R with rfl | ⟨R', x, rfl⟩
 ·have g : decide ((0 : Int) < ((0 : Nat) : Int)) = false := rfl
  have l0 : 0 < LIM := by decide
  rw [addR_nil]
  simp only [gBody, runP, runD, exSs, exS, evE, evEs, evO, evI, capt, tyOp, isTy, List.replicate, Nat.reduceAdd, Nat.reduceSub, reduceIte, ite_true, ite_false, J, J2, e, g, l0]
 ·have g : decide ((0 : Int) < (((R' ++ [x]).map rP).length : Int)) = true := by
   simp only [List.length_map, List.length_append, List.length_singleton, decide_eq_true_eq]; omega
  have e1 := last1 R' x
  have e2 := ixl R' x
  have e3 := set_last R' x (d, x.2 + 1)
  have hl' : ((R' ++ [x]).map rP).length < LIM := by rw [List.length_map]; exact hl
  rw [addR_snoc]
  have e4 : ∀ y, runP (R' ++ [x] ++ [y]) = .lst ((R' ++ [x]).map rP ++ [rP y]) := fun y => by
   show PV.lst _ = _
   rw [List.map_append (l₁ := R' ++ [x]), List.map_singleton]
  have e6 : runP (R' ++ [x]) = .lst ((R' ++ [x]).map rP) := rfl
  rw [e6] at e1 ⊢
  have e5 : runP (R' ++ [(d, x.2 + 1)]) = .lst (((R' ++ [x]).map rP).set R'.length (rP (d, x.2 + 1))) := by rw [e3]
  cases hx : (x.1 == d) with
  | true =>
   rw [if_pos rfl, e5]
   generalize (R' ++ [x]).map rP = W at g e1 e2 hl' ⊢
   simp only [gBody, runD, exSs, exS, evE, evEs, evO, evI, capt, tyOp, isTy, List.replicate, Nat.reduceAdd, Nat.reduceSub, reduceIte, ite_true, ite_false, J, J2, e, g, ngI, e1, rP0, rP1, eSt, hx, e2]
  | false =>
   rw [if_neg (by decide), e4]
   generalize (R' ++ [x]).map rP = W at g e1 e2 hl' ⊢
   simp only [gBody, runD, exSs, exS, evE, evEs, evO, evI, capt, tyOp, isTy, List.replicate, Nat.reduceAdd, Nat.reduceSub, reduceIte, ite_true, ite_false, J, J2, e, g, ngI, e1, rP0, rP1, eSt, hx, hl']
end K20
set_option maxHeartbeats 4000000
namespace K20
open PySem L2 Ci K71 K03
theorem runs_loop (F : Fns) (hd : DirOk F) (A B C : PV) : ∀ (Q : List (Int × Int)) (p : Int × Int) (R : List (Str × Int)) (s4 s5 s6 : Ci.Slot), R.length + Q.length ≤ 100 →
 ∃ u4 u5 u6, forL (fun x env => ((Tg.two 4 5).put x env).bind fun env' => exSs F gBody env') (zipP ((p :: Q).map spP) (Q.map spP)) [.val A, .val B, .val C, .own (runP R), s4, s5, s6] = .ok (.nx [.val A, .val B, .val C, .own (runP ((nms (p :: Q)).foldl addR R)), u4, u5, u6])
 | [], p, R, s4, s5, s6, _ => ⟨s4, s5, s6, rfl⟩
 | q :: Q, p, R, s4, s5, s6, h => by
  rw [List.length_cons] at h
  have e := gbody_ok F hd A B C R (by omega) p q s4 s5 s6
  have hl := addR_len R (nm (q.1 - p.1) (q.2 - p.2))
  obtain ⟨u4, u5, u6, e2⟩ := runs_loop F hd A B C Q q (addR R (nm (q.1 - p.1) (q.2 - p.2))) (.val (spP p)) (.val (spP q)) (.val (.str (nm (q.1 - p.1) (q.2 - p.2)))) (by omega)
  refine ⟨u4, u5, u6, ?_⟩
  have z : zipP ((p :: q :: Q).map spP) ((q :: Q).map spP) = .tup [spP p, spP q] :: zipP ((q :: Q).map spP) (Q.map spP) := rfl
  rw [z, forL, e, bok]
  exact e2
theorem slL1 {xs : List PV} : sliceOp (.lst xs) (some 1) none = .ok (.lst xs.tail) := by
 rw [slL, cut1]
theorem runsof_ok (F : Fns) (hn : NeedWayOk F) (hd : DirOk F) {rows : List Str} {w : Nat} (L : Fl rows w) {sl : Bool} {cl pr : Int} (V : Wk cl pr) {P : List (Int × Int)} (hne : P ≠ []) (hl : P.length ≤ 50) (hs : (dueT rows sl cl pr (way P)).isSome = true) :
 runD F d_runs_of [fl rows, wk sl cl pr, way P] = .ok (runP (runs P)) := by
 have e := hn rows w L sl cl pr V (way P) (.l _ (fun x hx => by obtain ⟨p, _, rfl⟩ := List.mem_map.1 hx; exact .inr (.inl ⟨p.1, p.2, rfl⟩)) (by rw [List.length_map]; omega))
 rw [if_pos hs] at e
 cases P with
 | nil => exact absurd rfl hne
 | cons p Q =>
  obtain ⟨u4, u5, u6, e2⟩ := runs_loop F hd (fl rows) (wk sl cl pr) (way (p :: Q)) Q p [] .no .no .no (by rw [List.length_cons] at hl; simp only [List.length_nil]; omega)
  have e3 : (nms (p :: Q)).foldl addR [] = runs (p :: Q) := rfl
  rw [e3] at e2
  generalize hw : (p :: Q).map spP = W at e e2
  have ht : Q.map spP = W.tail := by rw [← hw]; rfl
  rw [ht] at e2
  have hway : way (p :: Q) = .lst W := by rw [← hw]
  rw [hway] at e e2 ⊢
  generalize runP (runs (p :: Q)) = Z at e2 ⊢
  simp only [gBody, runP, List.map_nil, runD, exSs, exS, evE, evEs, evO, evI, capt, tyOp, isTy, List.replicate, Nat.reduceAdd, Nat.reduceSub, reduceIte, ite_true, ite_false, J, J2] at e2
  simp only [d_runs_of, runD, exSs, exS, evE, evEs, evO, evI, capt, tyOp, isTy, List.replicate, Nat.reduceAdd, Nat.reduceSub, reduceIte, ite_true, ite_false, J, J2, e, eoN, slL1, e2, List.modify_succ_cons, List.modify_zero_cons, fxo]
theorem runsof_no (F : Fns) (hn : NeedWayOk F) {rows : List Str} {w : Nat} (L : Fl rows w) {sl : Bool} {cl pr : Int} (V : Wk cl pr) {th : PV} (h : Th th) (hs : (dueT rows sl cl pr th).isSome = false) :
 runD F d_runs_of [fl rows, wk sl cl pr, th] = .exc "NoWay" := by
 have e := hn rows w L sl cl pr V th h
 rw [if_neg (by rw [hs]; decide)] at e
 simp only [d_runs_of, runD, exSs, exS, evE, evEs, evO, evI, capt, tyOp, isTy, List.replicate, Nat.reduceAdd, Nat.reduceSub, reduceIte, ite_true, ite_false, J, J2, e, bexc]
def hBody : Ss := (.cons (.set 4 (.call "_law_name" (.cons (.sub (.var 0) (.var 2)) (.cons (.var 3) .nil))))
 (.cons (.ite (.and (.cmp .ne (.tmp 1) (.lst .nil)) (.cmp .eq (.sub (.sub (.tmp 1) (.neg (.cst (.int 1)))) (.cst (.int 0))) (.var 4)))
  (.cons (.put 1 (.neg (.cst (.int 1))) (.tup (.cons (.var 4) (.cons (.bin .add (.sub (.sub (.tmp 1) (.neg (.cst (.int 1)))) (.cst (.int 1))) (.cst (.int 1))) .nil))))
  .nil)
  (.cons (.app 1 (.tup (.cons (.var 4) (.cons (.cst (.int 1)) .nil))))
  .nil))
 .nil))
def near (p q : Int × Int) : Prop := -1 ≤ q.1 - p.1 ∧ q.1 - p.1 ≤ 1 ∧ -1 ≤ q.2 - p.2 ∧ q.2 - p.2 ≤ 1
def NameOk (F : Fns) : Prop := ∀ p q : Int × Int, near p q → F "_law_name" [spP p, spP q] = .ok (.str (nm (q.1 - p.1) (q.2 - p.2)))
theorem hbody_ok (F : Fns) (hd : NameOk F) {P : List (Int × Int)} {k : Nat} {p q : Int × Int} (hk : P[k]? = some p) (hn : near p q) (R : List (Str × Int)) (hR : R.length ≤ 100) (s2 s3 s4 : Ci.Slot) :
 ((Tg.two 2 3).put (.tup [.int (k : Int), spP q]) [.val (way P), .own (runP R), s2, s3, s4]).bind (fun env' => exSs F hBody env') = .ok (.nx [.val (way P), .own (runP (addR R (nm (q.1 - p.1) (q.2 - p.2)))), .val (.int (k : Int)), .val (spP q), .val (.str (nm (q.1 - p.1) (q.2 - p.2)))]) := by
 have e := hd p q hn
 have e0 : subOp (way P) (.int (k : Int)) = .ok (spP p) := by
  show Res.of (atI (P.map spP) (k : Int)) = _
  rw [K03.atI_nat (x := spP p) (by rw [List.getElem?_map, hk]; rfl)]
  rfl
 generalize nm (q.1 - p.1) (q.2 - p.2) = d at e
 generalize way P = Wy at e0
 have hl : R.length < LIM := Nat.lt_of_le_of_lt hR (by decide)
 have g := ne_nilR R
 rcases snoc_or R with rfl | ⟨R', x, rfl⟩
 ·have l0 : 0 < LIM := by decide
  rw [addR_nil]
  simp only [runP, List.map_nil, List.isEmpty_nil, Bool.not_true] at g
  simp only [hBody, runP, runD, exSs, exS, evE, evEs, evO, evI, capt, tyOp, isTy, List.replicate, Nat.reduceAdd, Nat.reduceSub, reduceIte, ite_true, ite_false, J, J2, e0, e, g, l0]
 ·have e1 := last1 R' x
  have e2 := ixl R' x
  have e3 := set_last R' x (d, x.2 + 1)
  have hl' : ((R' ++ [x]).map rP).length < LIM := by rw [List.length_map]; exact hl
  rw [addR_snoc]
  have e4 : ∀ y, runP (R' ++ [x] ++ [y]) = .lst ((R' ++ [x]).map rP ++ [rP y]) := fun y => by
   show PV.lst _ = _
   rw [List.map_append (l₁ := R' ++ [x]), List.map_singleton]
  have e6 : runP (R' ++ [x]) = .lst ((R' ++ [x]).map rP) := rfl
  have e7 : (!(R' ++ [x]).isEmpty) = true := by cases R' <;> rfl
  rw [e6] at e1 g ⊢
  rw [e7] at g
  have e5 : runP (R' ++ [(d, x.2 + 1)]) = .lst (((R' ++ [x]).map rP).set R'.length (rP (d, x.2 + 1))) := by rw [e3]
  cases hx : (x.1 == d) with
  | true =>
   rw [if_pos rfl, e5]
   generalize (R' ++ [x]).map rP = W at g e1 e2 hl' ⊢
   simp only [hBody, runD, exSs, exS, evE, evEs, evO, evI, capt, tyOp, isTy, List.replicate, Nat.reduceAdd, Nat.reduceSub, reduceIte, ite_true, ite_false, J, J2, e0, e, g, ngI, e1, rP0, rP1, eSt, hx, e2]
  | false =>
   rw [if_neg (by decide), e4]
   generalize (R' ++ [x]).map rP = W at g e1 e2 hl' ⊢
   simp only [hBody, runD, exSs, exS, evE, evEs, evO, evI, capt, tyOp, isTy, List.replicate, Nat.reduceAdd, Nat.reduceSub, reduceIte, ite_true, ite_false, J, J2, e0, e, g, ngI, e1, rP0, rP1, eSt, hx, hl']
theorem lruns_loop (F : Fns) (hd : NameOk F) {P : List (Int × Int)} : ∀ (Q : List (Int × Int)) (k : Nat) (p : Int × Int) (R : List (Str × Int)) (s2 s3 s4 : Ci.Slot), R.length + Q.length ≤ 100 → (∀ i, (p :: Q)[i]? = P[k + i]?) → (∀ i x y, (p :: Q)[i]? = some x → (p :: Q)[i + 1]? = some y → near x y) →
 ∃ u2 u3 u4, forL (fun x env => ((Tg.two 2 3).put x env).bind fun env' => exSs F hBody env') (enumP k (Q.map spP)) [.val (way P), .own (runP R), s2, s3, s4] = .ok (.nx [.val (way P), .own (runP ((nms (p :: Q)).foldl addR R)), u2, u3, u4])
 | [], k, p, R, s2, s3, s4, _, _, _ => ⟨s2, s3, s4, rfl⟩
 | q :: Q, k, p, R, s2, s3, s4, h, hP, hN => by
  rw [List.length_cons] at h
  have e := hbody_ok F hd (P := P) (k := k) (p := p) (q := q) (hP 0).symm (hN 0 p q rfl rfl) R (by omega) s2 s3 s4
  have hl := addR_len R (nm (q.1 - p.1) (q.2 - p.2))
  obtain ⟨u2, u3, u4, e2⟩ := lruns_loop F hd Q (k + 1) q (addR R (nm (q.1 - p.1) (q.2 - p.2))) (.val (.int (k : Int))) (.val (spP q)) (.val (.str (nm (q.1 - p.1) (q.2 - p.2)))) (by omega) (fun i => by
   have := hP (i + 1)
   rw [show k + 1 + i = k + (i + 1) by omega]
   exact this) (fun i x y hx hy => hN (i + 1) x y hx hy)
  refine ⟨u2, u3, u4, ?_⟩
  rw [List.map_cons, enumP, forL, e, bok]
  exact e2
theorem lruns_ok (F : Fns) (hd : NameOk F) {P : List (Int × Int)} (hne : P ≠ []) (hl : P.length ≤ 50) (hN : ∀ i x y, P[i]? = some x → P[i + 1]? = some y → near x y) : runD F d__law_runs [way P] = .ok (runP (runs P)) := by
 cases P with
 | nil => exact absurd rfl hne
 | cons p Q =>
  obtain ⟨u2, u3, u4, e2⟩ := lruns_loop F hd (P := p :: Q) Q 0 p [] .no .no .no (by rw [List.length_cons] at hl; simp only [List.length_nil]; omega) (fun i => by rw [Nat.zero_add]) hN
  have e3 : (nms (p :: Q)).foldl addR [] = runs (p :: Q) := rfl
  rw [e3] at e2
  generalize hw : (p :: Q).map spP = W at e2
  have ht : Q.map spP = W.tail := by rw [← hw]; rfl
  rw [ht] at e2
  have hway : way (p :: Q) = .lst W := by rw [← hw]
  rw [hway] at e2 ⊢
  generalize runP (runs (p :: Q)) = Z at e2 ⊢
  simp only [hBody, runP, List.map_nil, runD, exSs, exS, evE, evEs, evO, evI, capt, tyOp, isTy, List.replicate, Nat.reduceAdd, Nat.reduceSub, reduceIte, ite_true, ite_false, J, J2] at e2
  simp only [d__law_runs, runD, exSs, exS, evE, evEs, evO, evI, capt, tyOp, isTy, List.replicate, Nat.reduceAdd, Nat.reduceSub, reduceIte, ite_true, ite_false, J, J2, eoN, slL1, e2, List.modify_succ_cons, List.modify_zero_cons, fxo]
end K20
set_option maxHeartbeats 4000000
namespace K20
open PySem L2 Ci K71 K03
section
variable (rows : List Str) (sl : Bool) (cl pr : Int)
def okS (q : Int × Int) (d : Str) : Bool := opn rows (nx q d).1 (nx q d).2 && (stepC rows sl cl pr q.1 q.2 (nx q d).1 (nx q d).2).isSome
def adv (s : List (Int × Int) × (Int × Int)) (d : Str) : Option (List (Int × Int) × (Int × Int)) := if okS rows sl cl pr s.2 d then some (s.1 ++ [s.2], nx s.2 d) else none
def goS (s : List (Int × Int) × (Int × Int)) : List Str → Option (List (Int × Int) × (Int × Int))
 | [] => some s
 | d :: ds => (adv rows sl cl pr s d).bind fun s' => goS s' ds
theorem goS_app (s : List (Int × Int) × (Int × Int)) : ∀ (a b : List Str), goS rows sl cl pr s (a ++ b) = (goS rows sl cl pr s a).bind fun s' => goS rows sl cl pr s' b := by
 intro a
 induction a generalizing s with
 | nil => intro b; rfl
 | cons d a ih =>
  intro b
  show (adv rows sl cl pr s d).bind (fun s' => goS rows sl cl pr s' (a ++ b)) = ((adv rows sl cl pr s d).bind fun s' => goS rows sl cl pr s' a).bind _
  cases adv rows sl cl pr s d with
  | none => rfl
  | some s' => exact ih s' b
end
def AfterOk (F : Fns) : Prop := ∀ rows w, Fl rows w → ∀ sl cl pr, Wk cl pr → ∀ (q : Int × Int) d, opn rows q.1 q.2 = true → F "after_step" [fl rows, wk sl cl pr, spP q, .str d] = if okS rows sl cl pr q d then .ok (spP (nx q d)) else .exc "NoWay"
theorem after_ok (F : Fns) (hb : ∀ p d, F "spot_beside" [spP p, .str d] = .ok (spP (nx p d))) (ho : OpenOk F) (hs : StepOk F) {rows : List Str} {w : Nat} (L : Fl rows w) {sl : Bool} {cl pr : Int} (V : Wk cl pr) (q : Int × Int) (d : Str) (hq : opn rows q.1 q.2 = true) :
 runD F d_after_step [fl rows, wk sl cl pr, spP q, .str d] = if okS rows sl cl pr q d then .ok (spP (nx q d)) else .exc "NoWay" := by
 have e1 := hb q d
 have e2 := ho rows L.rok (nx q d).1 (nx q d).2
 unfold okS
 cases h : opn rows (nx q d).1 (nx q d).2 with
 | false =>
  rw [h] at e2
  simp only [d_after_step, runD, exSs, exS, evE, evEs, evO, evI, capt, tyOp, isTy, List.replicate, Nat.reduceAdd, Nat.reduceSub, reduceIte, ite_true, ite_false, J, J2, e1, e2, Bool.false_and, bexc]
 | true =>
  rw [h] at e2
  have e3 := hs rows w L sl cl pr V q.1 q.2 (nx q d).1 (nx q d).2 hq h
  cases hc : stepC rows sl cl pr q.1 q.2 (nx q d).1 (nx q d).2 with
  | none =>
   rw [hc] at e3
   simp only [oP] at e3
   have e4 : opIs .non .non = .ok (.bl true) := rfl
   simp only [d_after_step, runD, exSs, exS, evE, evEs, evO, evI, capt, tyOp, isTy, List.replicate, Nat.reduceAdd, Nat.reduceSub, reduceIte, ite_true, ite_false, J, J2, e1, e2, e3, e4, Option.isSome_none, Bool.and_false, bexc]
  | some v =>
   rw [hc] at e3
   simp only [oP] at e3
   have e4 : opIs (.int v) .non = .ok (.bl false) := rfl
   simp only [d_after_step, runD, exSs, exS, evE, evEs, evO, evI, capt, tyOp, isTy, List.replicate, Nat.reduceAdd, Nat.reduceSub, reduceIte, ite_true, ite_false, J, J2, e1, e2, e3, e4, Option.isSome_some, Bool.and_self]
theorem lastW (A : List (Int × Int)) (q : Int × Int) : subOp (way (A ++ [q])) (.int (-1)) = .ok (spP q) := by
 show Res.of (atI ((A ++ [q]).map spP) (-1)) = _
 rw [List.map_append, List.map_singleton, K03.atI_last]
 rfl
def iBody : Ss := (.cons (.app 4 (.call "after_step" (.cons (.var 0) (.cons (.var 1) (.cons (.sub (.tmp 4) (.neg (.cst (.int 1)))) (.cons (.var 5) .nil))))))
 .nil)
def oW : Option (List (Int × Int) × (Int × Int)) → (PV → Res Fl) → Res Fl
 | some s, k => k (way (s.1 ++ [s.2]))
 | none, _ => .exc "NoWay"
theorem wsn (A : List (Int × Int)) (q t : Int × Int) : way (A ++ [q] ++ [t]) = .lst ((A ++ [q]).map spP ++ [spP t]) := by
 show PV.lst _ = _
 rw [List.map_append (l₁ := A ++ [q])]
 rfl
theorem in_loop (F : Fns) (ha : AfterOk F) {rows : List Str} {w : Nat} (L : Fl rows w) {sl : Bool} {cl pr : Int} (V : Wk cl pr) (S R : PV) (d : Str) (n6 : Ci.Slot) : ∀ (xs : List PV) (A : List (Int × Int)) (q : Int × Int) (s7 : Ci.Slot), opn rows q.1 q.2 = true → A.length + xs.length ≤ 100 →
 ∃ u7, forL (fun x env => ((Tg.one 7).put x env).bind fun env' => exSs F iBody env') xs [.val (fl rows), .val (wk sl cl pr), .val S, .val R, .own (way (A ++ [q])), .val (.str d), n6, s7] =
  oW (goS rows sl cl pr (A, q) (List.replicate xs.length d)) fun W => .ok (.nx [.val (fl rows), .val (wk sl cl pr), .val S, .val R, .own W, .val (.str d), n6, u7])
 | [], A, q, s7, _, _ => ⟨s7, rfl⟩
 | x :: xs, A, q, s7, hq, hl => by
  rw [List.length_cons] at hl
  have e1 := lastW A q
  have e2 := ha rows w L sl cl pr V q d hq
  have l1 : ((A ++ [q]).map spP).length < LIM := Nat.lt_of_le_of_lt (m := 200) (by simp only [List.length_map, List.length_append, List.length_singleton]; omega) (by decide)
  have e6 : way (A ++ [q]) = .lst ((A ++ [q]).map spP) := rfl
  rw [List.length_cons, List.replicate_succ, goS, adv]
  cases hk : okS rows sl cl pr q d with
  | false =>
   rw [hk] at e2
   refine ⟨.no, ?_⟩
   rw [e6] at e1 ⊢
   generalize (A ++ [q]).map spP = W at e1 l1 ⊢
   simp only [forL, iBody, runD, exSs, exS, evE, evEs, evO, evI, capt, tyOp, isTy, List.replicate, Nat.reduceAdd, Nat.reduceSub, reduceIte, ite_true, ite_false, J, J2, ngI, e1, e2, bexc]
   rfl
  | true =>
   rw [hk] at e2
   have hq' : opn rows (nx q d).1 (nx q d).2 = true := by
    unfold okS at hk
    exact (Bool.and_eq_true _ _ ▸ hk).1
   obtain ⟨u7, e⟩ := in_loop F ha L (sl := sl) V S R d n6 xs (A ++ [q]) (nx q d) (.val x) hq' (by rw [List.length_append, List.length_singleton]; omega)
   refine ⟨u7, ?_⟩
   rw [wsn] at e
   simp only [if_true, Option.bind_some]
   rw [← e, e6]
   rw [e6] at e1
   generalize (A ++ [q]).map spP = W at e1 l1 ⊢
   rw [forL]
   simp only [iBody, runD, exSs, exS, evE, evEs, evO, evI, capt, tyOp, isTy, List.replicate, Nat.reduceAdd, Nat.reduceSub, reduceIte, ite_true, ite_false, J, J2, ngI, e1, e2, l1]
end K20
set_option maxHeartbeats 4000000
namespace K20
open PySem L2 Ci K71 K03
theorem goS_open (rows : List Str) (sl : Bool) (cl pr : Int) : ∀ (ds : List Str) (s s' : List (Int × Int) × (Int × Int)), opn rows s.2.1 s.2.2 = true → goS rows sl cl pr s ds = some s' → opn rows s'.2.1 s'.2.2 = true ∧ s'.1.length = s.1.length + ds.length
 | [], s, s', h, e => by cases e; exact ⟨h, rfl⟩
 | d :: ds, s, s', h, e => by
  rw [goS, adv] at e
  cases hk : okS rows sl cl pr s.2 d with
  | false => rw [hk] at e; cases e
  | true =>
   rw [hk, if_pos rfl, Option.bind_some] at e
   have hq' : opn rows (nx s.2 d).1 (nx s.2 d).2 = true := by
    unfold okS at hk
    exact (Bool.and_eq_true _ _ ▸ hk).1
   have := goS_open rows sl cl pr ds _ s' hq' e
   simp only [List.length_append, List.length_cons, List.length_nil] at this ⊢
   exact ⟨this.1, by omega⟩
def jBody : Ss := (.cons (.ite (.cmp .nin (.var 5) (.glob "DIRECTIONS" (.tup [(.str "n"), (.str "s"), (.str "w"), (.str "e"), (.str "ne"), (.str "nw"), (.str "se"), (.str "sw")])))
 (.cons (.raise "NoWay" "this is no direction")
 .nil)
 .nil)
 (.cons (.for_ (.one 7) (.rng (.var 6))
  iBody)
 .nil))
theorem nin_dir {d : Str} (h : d ∈ dirs) : opNin (.str d) (.tup [(.str "n"), (.str "s"), (.str "w"), (.str "e"), (.str "ne"), (.str "nw"), (.str "se"), (.str "sw")]) = .ok (.bl false) := by
 have : (dirs.any fun x => x == d) = true := by rw [List.any_eq_true]; exact ⟨d, h, beq_self_eq_true d⟩
 show Res.ok (PV.bl (!(dirs.any fun x => x == d))) = _
 rw [this]
 rfl
theorem rng_len (n : Nat) : (rngP 0 n).length = n := by simp [rngP]
theorem out_loop (F : Fns) (ha : AfterOk F) {rows : List Str} {w : Nat} (L : Fl rows w) {sl : Bool} {cl pr : Int} (V : Wk cl pr) (S T : PV) : ∀ (R : List (Str × Int)) (A : List (Int × Int)) (q : Int × Int) (s5 s6 s7 : Ci.Slot), opn rows q.1 q.2 = true → (∀ x ∈ R, x.1 ∈ dirs ∧ 0 ≤ x.2 ∧ x.2 ≤ 50) → A.length + (flat R).length ≤ 50 →
 ∃ u5 u6 u7, forL (fun x env => ((Tg.two 5 6).put x env).bind fun env' => exSs F jBody env') (R.map rP) [.val (fl rows), .val (wk sl cl pr), .val S, .val T, .own (way (A ++ [q])), s5, s6, s7] =
  oW (goS rows sl cl pr (A, q) (flat R)) fun W => .ok (.nx [.val (fl rows), .val (wk sl cl pr), .val S, .val T, .own W, u5, u6, u7])
 | [], A, q, s5, s6, s7, _, _, _ => ⟨s5, s6, s7, rfl⟩
 | (d, n) :: R, A, q, s5, s6, s7, hq, hR, hl => by
  obtain ⟨hd, n0, n50⟩ := hR (d, n) (List.mem_cons_self ..)
  simp only at hd n0 n50
  have e1 := nin_dir hd
  have s62 : small62 n = true := by simp only [small62, Bool.and_eq_true, decide_eq_true_eq]; omega
  have hf : flat ((d, n) :: R) = List.replicate n.toNat d ++ flat R := rfl
  rw [hf, List.length_append, List.length_replicate] at hl
  obtain ⟨u7, e⟩ := in_loop F ha L (sl := sl) V S T d (.val (.int n)) (rngP 0 n.toNat) A q s7 hq (by rw [rng_len]; omega)
  rw [rng_len] at e
  rw [hf, goS_app]
  cases hg : goS rows sl cl pr (A, q) (List.replicate n.toNat d) with
  | none =>
   rw [hg] at e
   simp only [oW, runD, exSs, exS, evE, evEs, evO, evI, capt, tyOp, isTy, List.replicate, Nat.reduceAdd, Nat.reduceSub, reduceIte, ite_true, ite_false, J, J2] at e
   refine ⟨.no, .no, .no, ?_⟩
   simp only [List.map_cons, forL, tg2, runD, exSs, exS, evE, evEs, evO, evI, capt, tyOp, isTy, List.replicate, Nat.reduceAdd, Nat.reduceSub, reduceIte, ite_true, ite_false, J, J2]
   simp only [jBody, runD, exSs, exS, evE, evEs, evO, evI, capt, tyOp, isTy, List.replicate, Nat.reduceAdd, Nat.reduceSub, reduceIte, ite_true, ite_false, J, J2, e1, s62, e, bexc, Option.bind_none, oW]
  | some s' =>
   rw [hg] at e
   obtain ⟨o1, o2⟩ := goS_open rows sl cl pr _ _ _ hq hg
   rw [List.length_replicate] at o2
   simp only [oW, tgp, bok] at e
   obtain ⟨u5', u6', u7', e3⟩ := out_loop F ha L (sl := sl) V S T R s'.1 s'.2 (.val (.str d)) (.val (.int n)) u7 o1 (fun x hx => hR x (List.mem_cons_of_mem _ hx)) (by simp only at o2; omega)
   refine ⟨u5', u6', u7', ?_⟩
   rw [Option.bind_some, ← e3]
   simp only [List.map_cons, forL, tg2, runD, exSs, exS, evE, evEs, evO, evI, capt, tyOp, isTy, List.replicate, Nat.reduceAdd, Nat.reduceSub, reduceIte, ite_true, ite_false, J, J2]
   simp only [jBody, runD, exSs, exS, evE, evEs, evO, evI, capt, tyOp, isTy, List.replicate, Nat.reduceAdd, Nat.reduceSub, reduceIte, ite_true, ite_false, J, J2, e1, s62, e]
def byR (rows : List Str) (sl : Bool) (cl pr : Int) (q : Int × Int) (ds : List Str) : Res PV := match goS rows sl cl pr ([], q) ds with
 | some s => .ok (way (s.1 ++ [s.2]))
 | none => .exc "NoWay"
def NeedOk (F : Fns) : Prop := ∀ rows, Rok rows → ∀ r c, F "need_open" [fl rows, sp r c] = if opn rows r c then .ok .non else .exc "NoSpot"
theorem need_full (F : Fns) (ho : OpenOk F) (rows : List Str) (R : Rok rows) (r c : Int) : runD F d_need_open [fl rows, sp r c] = if opn rows r c then .ok .non else .exc "NoSpot" := by
 have e := ho rows R r c
 cases h : opn rows r c with
 | true => rw [h] at e; simp only [K71.d_need_open, runD, exSs, exS, evE, evEs, evO, evI, capt, tyOp, isTy, List.replicate, Nat.reduceAdd, Nat.reduceSub, reduceIte, ite_true, ite_false, J, J2, e]
 | false => rw [h] at e; simp only [K71.d_need_open, runD, exSs, exS, evE, evEs, evO, evI, capt, tyOp, isTy, List.replicate, Nat.reduceAdd, Nat.reduceSub, reduceIte, ite_true, ite_false, J, J2, e, bexc]
theorem wayby_ok (F : Fns) (hn : NeedOk F) (ha : AfterOk F) {rows : List Str} {w : Nat} (L : Fl rows w) {sl : Bool} {cl pr : Int} (V : Wk cl pr) (q : Int × Int) {R : List (Str × Int)} (hR : ∀ x ∈ R, x.1 ∈ dirs ∧ 0 ≤ x.2 ∧ x.2 ≤ 50) (hl : (flat R).length ≤ 50) :
 runD F d_way_by [fl rows, wk sl cl pr, spP q, runP R] = if opn rows q.1 q.2 then byR rows sl cl pr q (flat R) else .exc "NoSpot" := by
 have e := hn rows L.rok q.1 q.2
 cases h : opn rows q.1 q.2 with
 | false => rw [h] at e; simp only [d_way_by, runD, exSs, exS, evE, evEs, evO, evI, capt, tyOp, isTy, List.replicate, Nat.reduceAdd, Nat.reduceSub, reduceIte, ite_true, ite_false, J, J2, e, bexc]
 | true =>
  rw [h] at e
  obtain ⟨u5, u6, u7, e2⟩ := out_loop F ha L (sl := sl) V (spP q) (runP R) R [] q .no .no .no h hR (by simp only [List.length_nil]; omega)
  unfold byR
  generalize hW : R.map rP = W at e2
  have hr : runP R = .lst W := by rw [← hW]
  rw [hr] at e2 ⊢
  cases hg : goS rows sl cl pr ([], q) (flat R) with
  | none =>
   rw [hg] at e2
   simp only [jBody, iBody, oW, List.nil_append, way, List.map_cons, List.map_nil, bexc, runD, exSs, exS, evE, evEs, evO, evI, capt, tyOp, isTy, List.replicate, Nat.reduceAdd, Nat.reduceSub, reduceIte, ite_true, ite_false, J, J2] at e2
   simp only [d_way_by, runD, exSs, exS, evE, evEs, evO, evI, capt, tyOp, isTy, List.replicate, Nat.reduceAdd, Nat.reduceSub, reduceIte, ite_true, ite_false, J, J2, e, e2, bexc]
  | some s =>
   rw [hg] at e2
   simp only [oW] at e2
   show _ = Res.ok (way (s.1 ++ [s.2]))
   generalize way (s.1 ++ [s.2]) = Z at e2 ⊢
   simp only [jBody, iBody, List.nil_append, way, List.map_cons, List.map_nil, bexc, runD, exSs, exS, evE, evEs, evO, evI, capt, tyOp, isTy, List.replicate, Nat.reduceAdd, Nat.reduceSub, reduceIte, ite_true, ite_false, J, J2] at e2
   simp only [d_way_by, runD, exSs, exS, evE, evEs, evO, evI, capt, tyOp, isTy, List.replicate, Nat.reduceAdd, Nat.reduceSub, reduceIte, ite_true, ite_false, J, J2, bexc, e, e2, List.modify_succ_cons, List.modify_zero_cons, fxo]
end K20
set_option maxHeartbeats 4000000
namespace K20
open PySem L2 Ci K71 K03
def ledS (s : List (Int × Int) × (Int × Int)) (ds : List Str) : List (Int × Int) × (Int × Int) := ds.foldl (fun s d => (s.1 ++ [s.2], nx s.2 d)) s
abbrev ends (s : List (Int × Int) × (Int × Int)) : List (Int × Int) := s.1 ++ [s.2]
def lBody : Ss := (.cons (.set 8 (.bin .sub (.mth .countS (.var 5) (.cons (.cst (.str "s")) .nil)) (.mth .countS (.var 5) (.cons (.cst (.str "n")) .nil))))
 (.cons (.app 4 (.tup (.cons (.bin .add (.sub (.sub (.tmp 4) (.neg (.cst (.int 1)))) (.cst (.int 0))) (.var 8)) (.cons (.bin .sub (.bin .add (.sub (.sub (.tmp 4) (.neg (.cst (.int 1)))) (.cst (.int 1))) (.mth .countS (.var 5) (.cons (.cst (.str "e")) .nil))) (.mth .countS (.var 5) (.cons (.cst (.str "w")) .nil))) .nil))))
 .nil))
theorem led_in (F : Fns) (A0 B S R : PV) (d : Str) (n6 : Ci.Slot) : ∀ (xs : List PV) (s : List (Int × Int) × (Int × Int)) (s7 s8 : Ci.Slot), s.1.length + xs.length ≤ 100 →
 ∃ u7 u8, forL (fun x env => ((Tg.one 7).put x env).bind fun env' => exSs F lBody env') xs [.val A0, .val B, .val S, .val R, .own (way (ends s)), .val (.str d), n6, s7, s8] = .ok (.nx [.val A0, .val B, .val S, .val R, .own (way (ends (ledS s (List.replicate xs.length d)))), .val (.str d), n6, u7, u8])
 | [], s, s7, s8, _ => ⟨s7, s8, rfl⟩
 | x :: xs, s, s7, s8, hl => by
  rw [List.length_cons] at hl
  have e1 := lastW s.1 s.2
  have l1 : ((ends s).map spP).length < LIM := Nat.lt_of_le_of_lt (m := 200) (by simp only [ends, List.length_map, List.length_append, List.length_singleton]; omega) (by decide)
  have hx : nx s.2 d = (s.2.1 + (cntQ d "s" - cntQ d "n"), s.2.2 + cntQ d "e" - cntQ d "w") := by
   unfold nx
   rw [Int.add_sub_assoc]
  obtain ⟨u7, u8, e⟩ := led_in F A0 B S R d n6 xs (ends s, nx s.2 d) (.val x) (.val (.int (cntQ d "s" - cntQ d "n"))) (by simp only [ends, List.length_append, List.length_singleton]; omega)
  refine ⟨u7, u8, ?_⟩
  have e6 : way (ends s) = .lst ((ends s).map spP) := rfl
  have e7 : ledS s (List.replicate (x :: xs).length d) = ledS (ends s, nx s.2 d) (List.replicate xs.length d) := rfl
  have e8 : way (ends (ends s, nx s.2 d)) = .lst ((ends s).map spP ++ [spP (nx s.2 d)]) := wsn s.1 s.2 (nx s.2 d)
  rw [e7, ← e, e8, e6, hx]
  have e9 : subOp (.lst ((ends s).map spP)) (.int (-1)) = .ok (spP s.2) := e1
  generalize (ends s).map spP = W at e9 l1 ⊢
  rw [forL]
  simp only [lBody, runD, exSs, exS, evE, evEs, evO, evI, capt, tyOp, isTy, List.replicate, Nat.reduceAdd, Nat.reduceSub, reduceIte, ite_true, ite_false, J, J2, ngI, kS, cS, e9, l1]
def mBody : Ss := (.cons (.for_ (.one 7) (.rng (.var 6)) lBody) .nil)
theorem led_out (F : Fns) (A0 B S T : PV) : ∀ (R : List (Str × Int)) (s : List (Int × Int) × (Int × Int)) (s5 s6 s7 s8 : Ci.Slot), (∀ x ∈ R, x.1 ∈ dirs ∧ 0 ≤ x.2 ∧ x.2 ≤ 50) → s.1.length + (flat R).length ≤ 50 →
 ∃ u5 u6 u7 u8, forL (fun x env => ((Tg.two 5 6).put x env).bind fun env' => exSs F mBody env') (R.map rP) [.val A0, .val B, .val S, .val T, .own (way (ends s)), s5, s6, s7, s8] = .ok (.nx [.val A0, .val B, .val S, .val T, .own (way (ends (ledS s (flat R)))), u5, u6, u7, u8])
 | [], s, s5, s6, s7, s8, _, _ => ⟨s5, s6, s7, s8, rfl⟩
 | (d, n) :: R, s, s5, s6, s7, s8, hR, hl => by
  obtain ⟨hd, n0, n50⟩ := hR (d, n) (List.mem_cons_self ..)
  simp only at hd n0 n50
  have s62 : small62 n = true := by simp only [small62, Bool.and_eq_true, decide_eq_true_eq]; omega
  have hf : flat ((d, n) :: R) = List.replicate n.toNat d ++ flat R := rfl
  rw [hf, List.length_append, List.length_replicate] at hl
  obtain ⟨u7, u8, e⟩ := led_in F A0 B S T d (.val (.int n)) (rngP 0 n.toNat) s s7 s8 (by rw [rng_len]; omega)
  rw [rng_len] at e
  have hlen : ∀ (ds : List Str) (s : List (Int × Int) × (Int × Int)), (ledS s ds).1.length = s.1.length + ds.length := by
   intro ds
   induction ds with
   | nil => intro s; rfl
   | cons d ds ih =>
    intro s
    show (ledS (ends s, nx s.2 d) ds).1.length = _
    rw [ih]
    simp only [ends, List.length_append, List.length_cons, List.length_nil]
    omega
  have o := hlen (List.replicate n.toNat d) s
  rw [List.length_replicate] at o
  have hc : ledS s (List.replicate n.toNat d ++ flat R) = ledS (ledS s (List.replicate n.toNat d)) (flat R) := List.foldl_append
  obtain ⟨u5', u6', u7', u8', e3⟩ := led_out F A0 B S T R (ledS s (List.replicate n.toNat d)) (.val (.str d)) (.val (.int n)) u7 u8 (fun x hx => hR x (List.mem_cons_of_mem _ hx)) (by omega)
  refine ⟨u5', u6', u7', u8', ?_⟩
  rw [hf, hc, ← e3]
  simp only [tgp, bok] at e
  simp only [List.map_cons, forL, tg2, runD, exSs, exS, evE, evEs, evO, evI, capt, tyOp, isTy, List.replicate, Nat.reduceAdd, Nat.reduceSub, reduceIte, ite_true, ite_false, J, J2]
  simp only [mBody, runD, exSs, exS, evE, evEs, evO, evI, capt, tyOp, isTy, List.replicate, Nat.reduceAdd, Nat.reduceSub, reduceIte, ite_true, ite_false, J, J2, s62, e]
def valid (rows : List Str) (sl : Bool) (cl pr : Int) (P : List (Int × Int)) : Prop := (∀ p ∈ P, opn rows p.1 p.2 = true) ∧ ((cst rows sl cl pr P).any fun o => o.isNone) = false
theorem Th_way {P : List (Int × Int)} (h : P.length ≤ 50) : Th (way P) := .l _ (fun x hx => by obtain ⟨p, _, rfl⟩ := List.mem_map.1 hx; exact .inr (.inl ⟨p.1, p.2, rfl⟩)) (by rw [List.length_map]; exact h)
theorem due_way (rows : List Str) (sl : Bool) (cl pr : Int) {P : List (Int × Int)} (hne : P ≠ []) : (dueT rows sl cl pr (way P)).isSome = true ↔ valid rows sl cl pr P := by
 have hmp : (P.map spP).map toP = P := by
  rw [List.map_map]
  exact List.map_id' P
 have hok : okL rows (way P) = true ↔ ∀ p ∈ P, opn rows p.1 p.2 = true := by
  show (!(P.map spP).isEmpty && (P.map spP).all (opV rows)) = true ↔ _
  have : (P.map spP).isEmpty = false := by cases P with | nil => exact absurd rfl hne | cons _ _ => rfl
  rw [this, Bool.not_false, Bool.true_and, List.all_map, List.all_eq_true]
  exact Iff.rfl
 unfold dueT valid
 by_cases h : okL rows (way P) = true
 ·rw [if_pos h]
  show (dueF 0 (cst rows sl cl pr ((P.map spP).map toP))).isSome = true ↔ _
  rw [hmp, due_none]
  exact ⟨fun z => ⟨hok.1 h, by rw [Bool.not_eq_true'] at z; exact z⟩, fun z => by rw [z.2]; rfl⟩
 ·rw [if_neg h]
  constructor
  ·intro z; cases z
  ·intro z; exact absurd (hok.2 z.1) h
theorem cst_pre (rows : List Str) (sl : Bool) (cl pr : Int) (R : List (Int × Int)) : ∀ X : List (Int × Int), ∃ U, cst rows sl cl pr (X ++ R) = cst rows sl cl pr X ++ U
 | [] => ⟨_, rfl⟩
 | [p] => ⟨_, rfl⟩
 | p :: p' :: X => by
  obtain ⟨U, e⟩ := cst_pre rows sl cl pr R (p' :: X)
  refine ⟨U, ?_⟩
  have e1 : cst rows sl cl pr (p :: p' :: X ++ R) = stepC rows sl cl pr p.1 p.2 p'.1 p'.2 :: cst rows sl cl pr (p' :: X ++ R) := rfl
  rw [e1, e]
  rfl
theorem valid_pre {rows : List Str} {sl : Bool} {cl pr : Int} {X R : List (Int × Int)} (h : valid rows sl cl pr (X ++ R)) : valid rows sl cl pr X := by
 obtain ⟨U, e⟩ := cst_pre rows sl cl pr R X
 refine ⟨fun p hp => h.1 p (List.mem_append_left _ hp), ?_⟩
 have := h.2
 rw [e, List.any_append, Bool.or_eq_false_iff] at this
 exact this.1
theorem valid_snoc {rows : List Str} {sl : Bool} {cl pr : Int} {A : List (Int × Int)} {q t : Int × Int} : valid rows sl cl pr (A ++ [q] ++ [t]) ↔ valid rows sl cl pr (A ++ [q]) ∧ opn rows t.1 t.2 = true ∧ (stepC rows sl cl pr q.1 q.2 t.1 t.2).isSome = true := by
 unfold valid
 rw [cst_snoc, List.any_append, Bool.or_eq_false_iff]
 have h1 : ([stepC rows sl cl pr q.1 q.2 t.1 t.2].any fun o => o.isNone) = false ↔ (stepC rows sl cl pr q.1 q.2 t.1 t.2).isSome = true := by
  cases stepC rows sl cl pr q.1 q.2 t.1 t.2 <;> simp
 rw [h1]
 constructor
 ·rintro ⟨a, b, c⟩
  exact ⟨⟨fun p hp => a p (List.mem_append_left _ hp), b⟩, a t (by simp), c⟩
 ·rintro ⟨⟨a, b⟩, c, d⟩
  refine ⟨fun p hp => ?_, b, d⟩
  rw [List.mem_append, List.mem_singleton] at hp
  rcases hp with hp | rfl
  ·exact a p hp
  ·exact c
theorem led_pre : ∀ (ds : List Str) (s : List (Int × Int) × (Int × Int)), ∃ R, ends (ledS s ds) = ends s ++ R
 | [], s => ⟨[], by simp [ledS]⟩
 | d :: ds, s => by
  obtain ⟨R, e⟩ := led_pre ds (ends s, nx s.2 d)
  refine ⟨[nx s.2 d] ++ R, ?_⟩
  show ends (ledS (ends s, nx s.2 d) ds) = _
  rw [e, List.append_assoc]
theorem go_led (rows : List Str) (sl : Bool) (cl pr : Int) : ∀ (ds : List Str) (s : List (Int × Int) × (Int × Int)), valid rows sl cl pr (ends s) → (valid rows sl cl pr (ends (ledS s ds)) ∧ goS rows sl cl pr s ds = some (ledS s ds)) ∨ (¬ valid rows sl cl pr (ends (ledS s ds)) ∧ goS rows sl cl pr s ds = none)
 | [], s, h => .inl ⟨h, rfl⟩
 | d :: ds, s, h => by
  have hv := valid_snoc (rows := rows) (sl := sl) (cl := cl) (pr := pr) (A := s.1) (q := s.2) (t := nx s.2 d)
  rw [goS, adv]
  cases hk : okS rows sl cl pr s.2 d with
  | true =>
   have hk' : opn rows (nx s.2 d).1 (nx s.2 d).2 = true ∧ (stepC rows sl cl pr s.2.1 s.2.2 (nx s.2 d).1 (nx s.2 d).2).isSome = true := by
    unfold okS at hk
    exact (Bool.and_eq_true _ _ ▸ hk)
   rw [if_pos rfl, Option.bind_some]
   exact go_led rows sl cl pr ds (ends s, nx s.2 d) (hv.2 ⟨h, hk'⟩)
  | false =>
   rw [if_neg (by decide)]
   refine .inr ⟨fun z => ?_, rfl⟩
   obtain ⟨R, e⟩ := led_pre ds (ends s, nx s.2 d)
   have z' : valid rows sl cl pr (ends (ends s, nx s.2 d) ++ R) := by rw [← e]; exact z
   have := (hv.1 (valid_pre z')).2
   have : okS rows sl cl pr s.2 d = true := by
    unfold okS
    exact Bool.and_eq_true _ _ ▸ this
   rw [hk] at this
   cases this
theorem led_ok (F : Fns) (hs : SumOk F) {rows : List Str} {w : Nat} (L : Fl rows w) {sl : Bool} {cl pr : Int} (V : Wk cl pr) (q : Int × Int) {R : List (Str × Int)} (hR : ∀ x ∈ R, x.1 ∈ dirs ∧ 0 ≤ x.2 ∧ x.2 ≤ 50) (hl : (flat R).length ≤ 49) (hq : opn rows q.1 q.2 = true) :
 runD F d__law_led [fl rows, wk sl cl pr, spP q, runP R] = .ok (match byR rows sl cl pr q (flat R) with | .ok v => v | _ => .str "no way") := by
 obtain ⟨u5, u6, u7, u8, e2⟩ := led_out F (fl rows) (wk sl cl pr) (spP q) (runP R) R ([], q) .no .no .no .no hR (by simp only [List.length_nil]; omega)
 have hlen : (ends (ledS ([], q) (flat R))).length ≤ 50 := by
  have : ∀ (ds : List Str) (s : List (Int × Int) × (Int × Int)), (ends (ledS s ds)).length = s.1.length + ds.length + 1 := by
   intro ds
   induction ds with
   | nil => intro s; simp [ends, ledS]
   | cons d ds ih =>
    intro s
    show (ends (ledS (ends s, nx s.2 d) ds)).length = _
    rw [ih]
    simp only [ends, List.length_append, List.length_cons, List.length_nil]
    omega
  rw [this]
  simp only [List.length_nil]
  omega
 have es := hs rows w L sl cl pr V _ (Th_way hlen)
 have hd := due_way rows sl cl pr (P := ends (ledS ([], q) (flat R))) (by simp [ends])
 have hg := go_led rows sl cl pr (flat R) ([], q) ⟨fun p hp => by simp only [ends, List.nil_append, List.mem_singleton] at hp; subst hp; exact hq, rfl⟩
 unfold byR
 generalize hW : R.map rP = W at e2
 have hr : runP R = .lst W := by rw [← hW]
 rw [hr] at e2 ⊢
 rcases hg with ⟨v, g⟩ | ⟨v, g⟩
 ·rw [g]
  show _ = Res.ok (way (ends (ledS ([], q) (flat R))))
  cases hq' : dueT rows sl cl pr (way (ends (ledS ([], q) (flat R)))) with
  | none => rw [hq'] at hd; exact absurd (hd.2 v) (by decide)
  | some x =>
   rw [hq'] at es
   simp only [oP] at es
   have o : opIs (.int x) .non = .ok (.bl false) := rfl
   generalize way (ends (ledS ([], q) (flat R))) = Z at e2 es ⊢
   simp only [mBody, lBody, ends, List.nil_append, way, List.map_cons, List.map_nil, runD, exSs, exS, evE, evEs, evO, evI, capt, tyOp, isTy, List.replicate, Nat.reduceAdd, Nat.reduceSub, reduceIte, ite_true, ite_false, J, J2] at e2
   simp only [d__law_led, runD, exSs, exS, evE, evEs, evO, evI, capt, tyOp, isTy, List.replicate, Nat.reduceAdd, Nat.reduceSub, reduceIte, ite_true, ite_false, J, J2, e2, List.modify_succ_cons, List.modify_zero_cons, fxo, es, o]
 ·rw [g]
  cases hq' : dueT rows sl cl pr (way (ends (ledS ([], q) (flat R)))) with
  | some x => rw [hq'] at hd; exact absurd (hd.1 rfl) v
  | none =>
   rw [hq'] at es
   simp only [oP] at es
   have o : opIs .non .non = .ok (.bl true) := rfl
   generalize way (ends (ledS ([], q) (flat R))) = Z at e2 es
   simp only [mBody, lBody, ends, List.nil_append, way, List.map_cons, List.map_nil, runD, exSs, exS, evE, evEs, evO, evI, capt, tyOp, isTy, List.replicate, Nat.reduceAdd, Nat.reduceSub, reduceIte, ite_true, ite_false, J, J2] at e2
   simp only [d__law_led, runD, exSs, exS, evE, evEs, evO, evI, capt, tyOp, isTy, List.replicate, Nat.reduceAdd, Nat.reduceSub, reduceIte, ite_true, ite_false, J, J2, e2, List.modify_succ_cons, List.modify_zero_cons, fxo, es, o]
end K20
set_option maxHeartbeats 4000000
namespace K20
open PySem L2 Ci K71 K03
theorem step_near {rows : List Str} {sl : Bool} {cl pr r c r' c' : Int} (h : (stepC rows sl cl pr r c r' c').isSome = true) : near (r, c) (r', c') ∧ ¬ (r' - r = 0 ∧ c' - c = 0) := by
 unfold stepC at h
 by_cases hf : (r = r' ∧ c = c') ∨ 1 < r - r' ∨ 1 < r' - r ∨ 1 < c - c' ∨ 1 < c' - c
 ·rw [if_pos hf] at h; cases h
 ·unfold near
  simp only
  omega
theorem valid_two {rows : List Str} {sl : Bool} {cl pr : Int} {p q : Int × Int} {Q : List (Int × Int)} (h : valid rows sl cl pr (p :: q :: Q)) : (stepC rows sl cl pr p.1 p.2 q.1 q.2).isSome = true ∧ valid rows sl cl pr (q :: Q) := by
 have e : cst rows sl cl pr (p :: q :: Q) = stepC rows sl cl pr p.1 p.2 q.1 q.2 :: cst rows sl cl pr (q :: Q) := rfl
 obtain ⟨h1, h2⟩ := h
 rw [e, List.any_cons, Bool.or_eq_false_iff] at h2
 refine ⟨?_, fun x hx => h1 x (List.mem_cons_of_mem _ hx), h2.2⟩
 cases hs : stepC rows sl cl pr p.1 p.2 q.1 q.2 with
 | none => rw [hs] at h2; exact absurd h2.1 (by decide)
 | some _ => rfl
theorem nms_dirs {rows : List Str} {sl : Bool} {cl pr : Int} : ∀ {P : List (Int × Int)}, valid rows sl cl pr P → ∀ d ∈ nms P, d ∈ dirs
 | [], _, d, hd => by cases hd
 | [p], _, d, hd => by cases hd
 | p :: q :: Q, h, d, hd => by
  obtain ⟨h1, h2⟩ := valid_two h
  obtain ⟨⟨n1, n2, n3, n4⟩, n5⟩ := step_near h1
  rw [nms, List.mem_cons] at hd
  rcases hd with rfl | hd
  ·exact nm_dirs n1 n2 n3 n4 n5
  ·exact nms_dirs h2 d hd
theorem nms_len : ∀ P : List (Int × Int), (nms P).length = P.length - 1
 | [] => rfl
 | [_] => rfl
 | p :: q :: Q => by
  have := nms_len (q :: Q)
  rw [nms, List.length_cons, this]
  simp
theorem led_back {rows : List Str} {sl : Bool} {cl pr : Int} : ∀ (Q : List (Int × Int)) (p : Int × Int) (A : List (Int × Int)), valid rows sl cl pr (p :: Q) → ends (ledS (A, p) (nms (p :: Q))) = A ++ p :: Q
 | [], p, A, _ => rfl
 | q :: Q, p, A, h => by
  obtain ⟨h1, h2⟩ := valid_two h
  obtain ⟨⟨n1, n2, n3, n4⟩, n5⟩ := step_near h1
  have e : nx p (nm (q.1 - p.1) (q.2 - p.2)) = q := by
   rw [nx_nm p n1 n2 n3 n4]
   show (p.1 + (q.1 - p.1), p.2 + (q.2 - p.2)) = q
   rw [show p.1 + (q.1 - p.1) = q.1 by omega, show p.2 + (q.2 - p.2) = q.2 by omega]
  have ih := led_back Q q (A ++ [p]) h2
  show ends (ledS (A ++ [p], nx p (nm (q.1 - p.1) (q.2 - p.2))) (nms (q :: Q))) = _
  rw [e, ih, List.append_assoc]
  rfl
theorem valid_near {rows : List Str} {sl : Bool} {cl pr : Int} : ∀ {P : List (Int × Int)}, valid rows sl cl pr P → ∀ i x y, P[i]? = some x → P[i + 1]? = some y → near x y
 | [], _, i, x, y, hx, _ => by cases hx
 | [p], _, i, x, y, _, hy => by cases hy
 | p :: q :: Q, h, 0, x, y, hx, hy => by
  cases hx; cases hy
  exact (step_near (valid_two h).1).1
 | p :: q :: Q, h, i + 1, x, y, hx, hy => valid_near (valid_two h).2 i x y hx hy
theorem runs_good {rows : List Str} {sl : Bool} {cl pr : Int} {P : List (Int × Int)} (h : valid rows sl cl pr P) (hl : P.length ≤ 50) : (∀ x ∈ runs P, x.1 ∈ dirs ∧ 0 ≤ x.2 ∧ x.2 ≤ 50) ∧ flat (runs P) = nms P := by
 obtain ⟨g, e⟩ := fold_good (ds := nms P) (m := 0) (R := []) (fun x hx => by cases hx) (nms_dirs h)
 refine ⟨fun x hx => ?_, by rw [runs, e]; rfl⟩
 have := g x hx
 rw [nms_len] at this
 exact ⟨this.1, this.2.1, by omega⟩
theorem by_back {rows : List Str} {sl : Bool} {cl pr : Int} {p : Int × Int} {Q : List (Int × Int)} (h : valid rows sl cl pr (p :: Q)) : byR rows sl cl pr p (nms (p :: Q)) = .ok (way (p :: Q)) := by
 have e := led_back Q p [] h
 have hp := h.1 p (List.mem_cons_self ..)
 unfold byR
 rcases go_led rows sl cl pr (nms (p :: Q)) ([], p) ⟨fun z hz => by simp only [ends, List.nil_append, List.mem_singleton] at hz; subst hz; exact hp, rfl⟩ with ⟨v, g⟩ | ⟨v, g⟩
 ·rw [g]
  show Res.ok (way (ends (ledS ([], p) (nms (p :: Q))))) = _
  rw [e]
  rfl
 ·rw [e] at v
  exact absurd h v
theorem eqs_same {f : PV → PV → Bool} : ∀ {xs : List PV}, (∀ x ∈ xs, f x x = true) → eqs f xs xs = true
 | [], _ => rfl
 | x :: xs, h => by
  rw [eqs, h x (List.mem_cons_self ..), eqs_same fun y hy => h y (List.mem_cons_of_mem _ hy)]
  rfl
theorem ne_same {xs : List PV} (h1 : ∀ x ∈ xs, Ci.plain 8 x = true) (h2 : ∀ x ∈ xs, eqN 8 x x = true) : opNe (.lst xs) (.lst xs) = .ok (.bl false) := by
 have p : pln (.lst xs) = true := by
  show xs.all (Ci.plain 8) = true
  rw [List.all_eq_true]
  exact h1
 have e : eqv (.lst xs) (.lst xs) = true := eqs_same (f := eqN 8) h2
 unfold opNe
 rw [p, e]
 rfl
theorem ne_way (P : List (Int × Int)) : opNe (way P) (way P) = .ok (.bl false) := by
 refine ne_same (fun x hx => ?_) (fun x hx => ?_)
 ·obtain ⟨p, _, rfl⟩ := List.mem_map.1 hx; rfl
 ·obtain ⟨p, _, rfl⟩ := List.mem_map.1 hx
  show ((p.1 == p.1) && ((p.2 == p.2) && true)) = true
  simp
theorem ne_runs (R : List (Str × Int)) : opNe (runP R) (runP R) = .ok (.bl false) := by
 refine ne_same (fun x hx => ?_) (fun x hx => ?_)
 ·obtain ⟨p, _, rfl⟩ := List.mem_map.1 hx; rfl
 ·obtain ⟨p, _, rfl⟩ := List.mem_map.1 hx
  show ((p.1 == p.1) && ((p.2 == p.2) && true)) = true
  simp
def triedR : Res PV → PV
 | .ok v => v
 | .exc c => if c == "NoSpot" then .str "no spot" else .str "no way"
 | .bad => .non
def okR : Res PV → Bool
 | .ok _ => true
 | .exc c => c == "NoSpot" || c == "NoWay"
 | .bad => false
theorem wordS (F : Fns) : runD F d__law_word [.exc "NoSpot"] = .ok (.str "no spot") := by rfl
theorem tried_of (F : Fns) (h1 : F "_law_word" [.exc "NoWay"] = .ok (.str "no way")) (h2 : F "_law_word" [.exc "NoSpot"] = .ok (.str "no spot")) (k : Int) (hk : k = 0 ∨ k = 1) (A B S T : PV) {r : Res PV} (hr : (if k = 0 then F "runs_of" [A, B, T] else F "way_by" [A, B, S, T]) = r) (ok : okR r = true) : runD F d__law_tried [.int k, A, B, S, T] = .ok (triedR r) := by
 have e0 : opIs .non .non = .ok (.bl true) := rfl
 have e1 : ∀ c, opIs (.exc c) .non = .ok (.bl false) := fun _ => rfl
 have e2 : ([.val (.int k), .val A, .val B, .val S, .val T, .val .non, .val .non, .no] : Sl).any Ci.Slot.isOwn = false := rfl
 have hc : ((if (k == 0) = true then F "runs_of" [A, B, T] else F "way_by" [A, B, S, T])) = r := by
  rw [← hr]
  by_cases h : k = 0 <;> simp [h]
 cases r with
 | bad => cases ok
 | ok v =>
  rcases hk with rfl | rfl
  ·simp only [beq_self_eq_true, if_true] at hc
   simp only [d__law_tried, runD, exSs, exS, evE, evEs, evO, evI, capt, tyOp, isTy, List.replicate, Nat.reduceAdd, Nat.reduceSub, reduceIte, ite_true, ite_false, J, J2, beq_self_eq_true, hc, e0, e2, triedR]
  ·have b : ((1 : Int) == 0) = false := rfl
   simp only [b, runD, exSs, exS, evE, evEs, evO, evI, capt, tyOp, isTy, List.replicate, Nat.reduceAdd, Nat.reduceSub, reduceIte, ite_true, ite_false, J, J2] at hc
   simp only [d__law_tried, runD, exSs, exS, evE, evEs, evO, evI, capt, tyOp, isTy, List.replicate, Nat.reduceAdd, Nat.reduceSub, reduceIte, ite_true, ite_false, J, J2, b, hc, e0, e2, triedR]
 | exc c =>
  have hcc : c = "NoSpot" ∨ c = "NoWay" := by simpa [okR] using ok
  have e3 : F "_law_word" [.exc c] = .ok (triedR (.exc c)) := by
   rcases hcc with rfl | rfl
   ·rw [h2]; rfl
   ·rw [h1]; rfl
  rcases hk with rfl | rfl
  ·simp only [beq_self_eq_true, if_true] at hc
   simp only [d__law_tried, runD, exSs, exS, evE, evEs, evO, evI, capt, tyOp, isTy, List.replicate, Nat.reduceAdd, Nat.reduceSub, reduceIte, ite_true, ite_false, J, J2, beq_self_eq_true, hc, e1, e2, e3, bexc]
  ·have b : ((1 : Int) == 0) = false := rfl
   simp only [b, runD, exSs, exS, evE, evEs, evO, evI, capt, tyOp, isTy, List.replicate, Nat.reduceAdd, Nat.reduceSub, reduceIte, ite_true, ite_false, J, J2] at hc
   simp only [d__law_tried, runD, exSs, exS, evE, evEs, evO, evI, capt, tyOp, isTy, List.replicate, Nat.reduceAdd, Nat.reduceSub, reduceIte, ite_true, ite_false, J, J2, b, hc, e1, e2, e3, bexc]
end K20
set_option maxHeartbeats 4000000
namespace K20
open PySem L2 Ci K71 K03
theorem eight {m : Int} (h0 : 0 ≤ m) (h1 : m < 8) : ∃ d : Str, subOp (.lst [.str "n", .str "ne", .str "e", .str "se", .str "s", .str "sw", .str "w", .str "nw"]) (.int m) = .ok (.str d) ∧ d ∈ dirs := by
 have : m = 0 ∨ m = 1 ∨ m = 2 ∨ m = 3 ∨ m = 4 ∨ m = 5 ∨ m = 6 ∨ m = 7 := by omega
 rcases this with rfl | rfl | rfl | rfl | rfl | rfl | rfl | rfl <;> exact ⟨_, rfl, by decide +kernel⟩
def rBody : Ss := (.cons (.set 7 (.sub (.lst (.cons (.cst (.str "n")) (.cons (.cst (.str "ne")) (.cons (.cst (.str "e")) (.cons (.cst (.str "se")) (.cons (.cst (.str "s")) (.cons (.cst (.str "sw")) (.cons (.cst (.str "w")) (.cons (.cst (.str "nw")) .nil))))))))) (.call "_law_pick" (.cons (.var 0) (.cons (.bin .add (.cst (.int 58)) (.var 6)) (.cons (.cst (.int 8)) .nil))))))
 (.cons (.app 5 (.tup (.cons (.var 7) (.cons (.call "_law_pick" (.cons (.var 0) (.cons (.bin .add (.cst (.int 62)) (.var 6)) (.cons (.cst (.int 4)) .nil)))) .nil))))
 .nil))
theorem draw_ok (F : Fns) (hp : PickOk F) (ns : List Int) (A B C D : PV) (n : Int) (n0 : 0 ≤ n) (n4 : n < 4) : ∃ R t6 t7, forL (fun x env => ((Tg.one 6).put x env).bind fun env' => exSs F rBody env') (rngP 0 n.toNat) [.val (scr ns), .val A, .val B, .val C, .val D, .own (.lst []), .no, .no, .no, .no, .no, .no] = .ok (.nx [.val (scr ns), .val A, .val B, .val C, .val D, .own (runP R), t6, t7, .no, .no, .no, .no]) ∧ R.length ≤ 3 ∧ ∀ x ∈ R, x.1 ∈ dirs ∧ 0 ≤ x.2 ∧ x.2 ≤ 3 := by
 obtain ⟨env', e, R, t6, t7, hl, hR, rfl⟩ := forL_list (body := fun x env => ((Tg.one 6).put x env).bind fun env' => exSs F rBody env')
  (P := fun k env => ∃ (R : List (Str × Int)) (t6 t7 : Ci.Slot), R.length ≤ k ∧ (∀ x ∈ R, x.1 ∈ dirs ∧ 0 ≤ x.2 ∧ x.2 ≤ 3) ∧ env = [.val (scr ns), .val A, .val B, .val C, .val D, .own (runP R), t6, t7, .no, .no, .no, .no])
  (rngP 0 n.toNat) 0 [.val (scr ns), .val A, .val B, .val C, .val D, .own (.lst []), .no, .no, .no, .no, .no, .no] ⟨[], _, _, Nat.le_refl _, (fun x hx => by cases hx), rfl⟩ (by
  intro i x env hx hq
  obtain ⟨hi, rfl⟩ := rng_at hx
  obtain ⟨R, t6, t7, hl, hR, rfl⟩ := hq
  obtain ⟨a, ea, a0, a8⟩ := hp ns (58 + (i : Int)) 8 (by omega) (by decide)
  obtain ⟨b, eb, b0, b4⟩ := hp ns (62 + (i : Int)) 4 (by omega) (by decide)
  obtain ⟨d, ed, hd⟩ := eight a0 a8
  have hL : (R.map rP).length < LIM := Nat.lt_of_le_of_lt (m := 10) (by rw [List.length_map]; omega) (by decide)
  refine ⟨[.val (scr ns), .val A, .val B, .val C, .val D, .own (runP (R ++ [(d, b)])), .val (.int i), .val (.str d), .no, .no, .no, .no], ?_, R ++ [(d, b)], _, _, by rw [List.length_append, List.length_singleton]; omega, ?_, rfl⟩
  ·have e1 : runP (R ++ [(d, b)]) = .lst (R.map rP ++ [.tup [.str d, .int b]]) := by
    show PV.lst _ = _
    rw [List.map_append]
    rfl
   have e0 : runP R = .lst (R.map rP) := rfl
   rw [e1, e0]
   generalize R.map rP = W at hL ⊢
   simp only [rBody, runD, exSs, exS, evE, evEs, evO, evI, capt, tyOp, isTy, List.replicate, Nat.reduceAdd, Nat.reduceSub, reduceIte, ite_true, ite_false, J, J2, ea, eb, ed, hL]
  ·intro y hy
   rw [List.mem_append, List.mem_singleton] at hy
   rcases hy with hy | rfl
   ·exact hR y hy
   ·exact ⟨hd, b0, by show b ≤ 3; omega⟩)
 rw [rng_len, Nat.zero_add] at hl
 exact ⟨R, t6, t7, e, by omega, hR⟩
theorem flat_len : ∀ {R : List (Str × Int)}, (∀ x ∈ R, x.1 ∈ dirs ∧ 0 ≤ x.2 ∧ x.2 ≤ 3) → (flat R).length ≤ 3 * R.length
 | [], _ => Nat.le_refl _
 | (d, n) :: R, h => by
  have h1 := h (d, n) (List.mem_cons_self ..)
  have ih := flat_len (R := R) fun x hx => h x (List.mem_cons_of_mem _ hx)
  show (List.replicate n.toNat d ++ flat R).length ≤ _
  simp only at h1
  rw [List.length_append, List.length_replicate, List.length_cons]
  omega
def sBody : Ss := (.cons (.set 10 (.call "_law_steps" (.cons (.var 1) (.cons (.var 2) (.cons (.sub (.tmp 9) (.neg (.cst (.int 1)))) .nil)))))
 (.cons (.ite (.cmp .ne (.var 10) (.lst .nil))
  (.cons (.app 9 (.sub (.sub (.var 10) (.bin .fdiv (.call "_law_pick" (.cons (.var 0) (.cons (.bin .add (.cst (.int 68)) (.var 6)) (.cons (.blt .len (.cons (.var 10) .nil)) .nil)))) (.cst (.int 2)))) (.cst (.int 0))))
  .nil)
  .nil)
 .nil))
theorem walk_ok (F : Fns) (hp : PickOk F) (hst : StepsOk F) (ns : List Int) {rows : List Str} {w : Nat} (L : Fl rows w) {sl : Bool} {cl pr : Int} (V : Wk cl pr) {p0 : Int × Int} (h0 : opn rows p0.1 p0.2 = true) (C D R due : PV) (t6 t7 : Ci.Slot) (n : Int) (n0 : 0 ≤ n) (n9 : n < 10) :
 ∃ (P : List (Int × Int)) (q : Int × Int) (u6 u10 : Ci.Slot), forL (fun x env => ((Tg.one 6).put x env).bind fun env' => exSs F sBody env') (rngP 0 n.toNat) [.val (scr ns), .val (fl rows), .val (wk sl cl pr), .val C, .val D, .val R, t6, t7, .val due, .own (.lst [spP p0]), .no, .no] = .ok (.nx [.val (scr ns), .val (fl rows), .val (wk sl cl pr), .val C, .val D, .val R, u6, t7, .val due, .own (way (P ++ [q])), u10, .no]) ∧ P.length ≤ 9 ∧ valid rows sl cl pr (P ++ [q]) := by
 obtain ⟨env', e, P, q, u6, u10, hl, hv, rfl⟩ := forL_list (body := fun x env => ((Tg.one 6).put x env).bind fun env' => exSs F sBody env')
  (P := fun k env => ∃ (P : List (Int × Int)) (q : Int × Int) (u6 u10 : Ci.Slot), P.length ≤ k ∧ valid rows sl cl pr (P ++ [q]) ∧ env = [.val (scr ns), .val (fl rows), .val (wk sl cl pr), .val C, .val D, .val R, u6, t7, .val due, .own (way (P ++ [q])), u10, .no])
  (rngP 0 n.toNat) 0 [.val (scr ns), .val (fl rows), .val (wk sl cl pr), .val C, .val D, .val R, t6, t7, .val due, .own (.lst [spP p0]), .no, .no] ⟨[], p0, _, _, Nat.le_refl _, ⟨fun p hp => by simp only [List.nil_append, List.mem_singleton] at hp; subst hp; exact h0, rfl⟩, rfl⟩ (by
  intro i x env hx hq
  obtain ⟨hi, rfl⟩ := rng_at hx
  obtain ⟨P, q, t6, t10, hl, hv, rfl⟩ := hq
  obtain ⟨T, eT, lT9, hT, _⟩ := hst rows w L sl cl pr V q.1 q.2 (hv.1 q (by simp))
  have e1 := lastW P q
  have lp : (P ++ [q]).length < LIM := Nat.lt_of_le_of_lt (m := 50) (by simp only [List.length_append, List.length_singleton]; omega) (by decide)
  cases hE : T.isEmpty with
  | true =>
   have ne := ne_nilT T
   rw [hE] at ne
   refine ⟨[.val (scr ns), .val (fl rows), .val (wk sl cl pr), .val C, .val D, .val R, .val (.int i), t7, .val due, .own (way (P ++ [q])), .val (.lst (T.map tP)), .no], ?_, P, q, _, _, by omega, hv, rfl⟩
   simp only [sBody, runD, exSs, exS, evE, evEs, evO, evI, capt, tyOp, isTy, List.replicate, Nat.reduceAdd, Nat.reduceSub, reduceIte, ite_true, ite_false, J, J2, ngI, e1, eT, ne]
  | false =>
   have ne := ne_nilT T
   rw [hE] at ne
   have hpos : 0 < T.length := by
    cases T with
    | nil => cases hE
    | cons _ _ => simp
   obtain ⟨m, em, m0, m1⟩ := hp ns (68 + (i : Int)) (T.length : Int) (by omega) (by omega)
   have d2 : (0 : Int) < 2 ∧ (2 : Int) < 1073741824 := by decide
   obtain ⟨j, hj2⟩ := Int.eq_ofNat_of_zero_le (show 0 ≤ m / 2 by omega)
   have hj : j < T.length := by omega
   have e2 : subOp (.lst (T.map tP)) (.int (m / 2)) = .ok (tP T[j]) := by
    rw [hj2]
    show Res.of (atI (T.map tP) (j : Int)) = _
    rw [K03.atI_nat (x := tP T[j]) (by rw [List.getElem?_map, List.getElem?_eq_getElem hj]; rfl)]
    rfl
   have ht := hT T[j] (List.getElem_mem hj)
   refine ⟨[.val (scr ns), .val (fl rows), .val (wk sl cl pr), .val C, .val D, .val R, .val (.int i), t7, .val due, .own (way (P ++ [q] ++ [(T[j].1, T[j].2.1)])), .val (.lst (T.map tP)), .no], ?_, P ++ [q], (T[j].1, T[j].2.1), _, _, by simp only [List.length_append, List.length_singleton]; omega, valid_snoc.2 ⟨hv, ht.1, by simp only [ht.2]; rfl⟩, rfl⟩
   have lp' : ((P ++ [q]).map spP).length < LIM := by rw [List.length_map]; exact lp
   rw [wsn]
   have hway : way (P ++ [q]) = .lst ((P ++ [q]).map spP) := rfl
   rw [hway] at e1 ⊢
   generalize (P ++ [q]).map spP = W at e1 lp' ⊢
   simp only [sBody, runD, exSs, exS, evE, evEs, evO, evI, capt, tyOp, isTy, List.replicate, Nat.reduceAdd, Nat.reduceSub, reduceIte, ite_true, ite_false, J, J2, ngI, e1, eT, ne, List.length_map, em, d2, and_self, e2, tP0, lp'])
 rw [rng_len, Nat.zero_add] at hl
 exact ⟨P, q, u6, u10, e, by omega, hv⟩
end K20
set_option maxHeartbeats 4000000
namespace K20
open PySem L2 Ci K71 K03
theorem fxv {p : PV} : frzS (.val p) = .val p := id rfl
def RunsOfOk (F : Fns) : Prop := ∀ rows w, Fl rows w → ∀ sl cl pr, Wk cl pr → (∀ P : List (Int × Int), P ≠ [] → P.length ≤ 50 → valid rows sl cl pr P → F "runs_of" [fl rows, wk sl cl pr, way P] = .ok (runP (runs P))) ∧ ∀ th, Th th → (dueT rows sl cl pr th).isSome = false → F "runs_of" [fl rows, wk sl cl pr, th] = .exc "NoWay"
def WayByOk (F : Fns) : Prop := ∀ rows w, Fl rows w → ∀ sl cl pr, Wk cl pr → ∀ (q : Int × Int) (R : List (Str × Int)), (∀ x ∈ R, x.1 ∈ dirs ∧ 0 ≤ x.2 ∧ x.2 ≤ 50) → (flat R).length ≤ 50 → F "way_by" [fl rows, wk sl cl pr, spP q, runP R] = if opn rows q.1 q.2 then byR rows sl cl pr q (flat R) else .exc "NoSpot"
def TriedOk (F : Fns) : Prop := ∀ rows w, Fl rows w → ∀ sl cl pr, Wk cl pr → ∀ S : PV, (∀ P : List (Int × Int), P ≠ [] → P.length ≤ 50 → valid rows sl cl pr P → F "_law_tried" [.int 0, fl rows, wk sl cl pr, S, way P] = .ok (runP (runs P))) ∧ (∀ th, Th th → (dueT rows sl cl pr th).isSome = false → F "_law_tried" [.int 0, fl rows, wk sl cl pr, S, th] = .ok (.str "no way")) ∧
 ∀ (q : Int × Int) (R : List (Str × Int)), (∀ x ∈ R, x.1 ∈ dirs ∧ 0 ≤ x.2 ∧ x.2 ≤ 50) → (flat R).length ≤ 50 → F "_law_tried" [.int 1, fl rows, wk sl cl pr, spP q, runP R] = .ok (if opn rows q.1 q.2 then triedR (byR rows sl cl pr q (flat R)) else .str "no spot")
theorem byR_ok (rows : List Str) (sl : Bool) (cl pr : Int) (q : Int × Int) (ds : List Str) : okR (byR rows sl cl pr q ds) = true := by
 unfold byR
 split <;> rfl
theorem tried_ok (F : Fns) (h1 : F "_law_word" [.exc "NoWay"] = .ok (.str "no way")) (h2 : F "_law_word" [.exc "NoSpot"] = .ok (.str "no spot")) (hr : RunsOfOk F) (hw : WayByOk F) : ∀ rows w, Fl rows w → ∀ sl cl pr, Wk cl pr → ∀ S : PV, (∀ P : List (Int × Int), P ≠ [] → P.length ≤ 50 → valid rows sl cl pr P → runD F d__law_tried [.int 0, fl rows, wk sl cl pr, S, way P] = .ok (runP (runs P))) ∧ (∀ th, Th th → (dueT rows sl cl pr th).isSome = false → runD F d__law_tried [.int 0, fl rows, wk sl cl pr, S, th] = .ok (.str "no way")) ∧
 ∀ (q : Int × Int) (R : List (Str × Int)), (∀ x ∈ R, x.1 ∈ dirs ∧ 0 ≤ x.2 ∧ x.2 ≤ 50) → (flat R).length ≤ 50 → runD F d__law_tried [.int 1, fl rows, wk sl cl pr, spP q, runP R] = .ok (if opn rows q.1 q.2 then triedR (byR rows sl cl pr q (flat R)) else .str "no spot") := by
 intro rows w L sl cl pr V S
 obtain ⟨r1, r2⟩ := hr rows w L sl cl pr V
 refine ⟨fun P hne hl hv => ?_, fun th ht hd => ?_, fun q R hR hl => ?_⟩
 ·exact tried_of F h1 h2 0 (.inl rfl) _ _ _ _ (r := .ok (runP (runs P))) (by rw [if_pos rfl]; exact r1 P hne hl hv) rfl
 ·exact tried_of F h1 h2 0 (.inl rfl) _ _ _ _ (r := .exc "NoWay") (by rw [if_pos rfl]; exact r2 th ht hd) rfl
 ·have e := hw rows w L sl cl pr V q R hR hl
  cases ho : opn rows q.1 q.2 with
  | true =>
   rw [ho, if_pos rfl] at e
   exact tried_of F h1 h2 1 (.inr rfl) _ _ _ _ (by rw [if_neg (by decide)]; exact e) (byR_ok ..)
  | false =>
   rw [ho, if_neg (by decide)] at e
   exact tried_of F h1 h2 1 (.inr rfl) _ _ _ _ (r := .exc "NoSpot") (by rw [if_neg (by decide)]; exact e) rfl
theorem tried_by (rows : List Str) (sl : Bool) (cl pr : Int) (q : Int × Int) (ds : List Str) : triedR (byR rows sl cl pr q ds) = (match byR rows sl cl pr q ds with | .ok v => v | _ => .str "no way") := by
 unfold byR
 split <;> rfl
theorem ne_by (rows : List Str) (sl : Bool) (cl pr : Int) (q : Int × Int) (ds : List Str) : opNe (triedR (byR rows sl cl pr q ds)) (triedR (byR rows sl cl pr q ds)) = .ok (.bl false) := by
 unfold byR
 split
 ·exact ne_way _
 ·rfl
theorem inE (M : List (Nat × Nat)) (rows : List Str) (hM : ∀ r c, (r, c) ∈ M ↔ opN rows r c = true) (a b : Int) : opIn (sp a b) (.lst (M.map spN)) = .ok (.bl (opn rows a b)) := by
 have h1 : opIn (sp a b) (.lst (M.map spN)) = (if (pln (sp a b) && (M.map spN).all pln) = true then Res.ok (PV.bl (memV (sp a b) (M.map spN))) else .bad) := rfl
 rw [h1, pl_all3, memI M rows hM]
 rfl
theorem bad_far (rows : List Str) (sl : Bool) (cl pr : Int) (P : List (Int × Int)) (q : Int × Int) : ¬ valid rows sl cl pr (P ++ [q] ++ [(q.1 + 2, q.2)]) := by
 intro h
 obtain ⟨_, _, hs⟩ := valid_snoc.1 h
 obtain ⟨⟨n1, n2, _, _⟩, _⟩ := step_near hs
 simp only at n2
 omega
def LedOk (F : Fns) : Prop := ∀ rows w, Fl rows w → ∀ sl cl pr, Wk cl pr → ∀ (q : Int × Int) (R : List (Str × Int)), (∀ x ∈ R, x.1 ∈ dirs ∧ 0 ≤ x.2 ∧ x.2 ≤ 50) → (flat R).length ≤ 49 → opn rows q.1 q.2 = true → F "_law_led" [fl rows, wk sl cl pr, spP q, runP R] = .ok (match byR rows sl cl pr q (flat R) with | .ok v => v | _ => .str "no way")
def LRunsOk (F : Fns) : Prop := ∀ P : List (Int × Int), P ≠ [] → P.length ≤ 50 → (∀ i x y, P[i]? = some x → P[i + 1]? = some y → near x y) → F "_law_runs" [way P] = .ok (runP (runs P))
theorem tail_ok (F : Fns) (hp : PickOk F) (hst : StepsOk F) (hru : LRunsOk F) (htr : TriedOk F) (ns : List Int) {rows : List Str} {w : Nat} (L : Fl rows w) {sl : Bool} {cl pr : Int} (V : Wk cl pr) (M : List (Nat × Nat)) (hM : ∀ r c, (r, c) ∈ M ↔ opN rows r c = true) (a b : Int) (Z tr due : PV) (t1 : F "_law_tried" [.int 1, fl rows, wk sl cl pr, sp a b, Z] = .ok tr) (hnd : opNe tr due = .ok (.bl false)) (t6 t7 : Ci.Slot) :
 exSs F oTail [.val (scr ns), .val (fl rows), .val (wk sl cl pr), .val (.lst (M.map spN)), .val (sp a b), .val Z, t6, t7, .val due, .no, .no, .no] = .ok (.rt (.bl true)) := by
 have enl := eq_nilN M
 obtain ⟨t2, t3, t4⟩ := htr rows w L sl cl pr V (sp a b)
 have nw : opEq (.str "no way") (.str "no way") = .ok (.bl true) := rfl
 cases hE : M.isEmpty with
 | true =>
  rw [hE] at enl
  have e1 := t3 (.lst []) (.l [] (fun x hx => by cases hx) (by decide)) rfl
  simp only [oTail, runD, exSs, exS, evE, evEs, evO, evI, capt, tyOp, isTy, List.replicate, Nat.reduceAdd, Nat.reduceSub, reduceIte, ite_true, ite_false, J, J2, t1, hnd, enl, e1, nw]
 | false =>
  rw [hE] at enl
  have hpos : 0 < M.length := by
   cases M with
   | nil => cases hE
   | cons _ _ => simp
  obtain ⟨m, em, m0, m1⟩ := hp ns 66 (M.length : Int) (by decide) (by omega)
  obtain ⟨j, rfl⟩ := Int.eq_ofNat_of_zero_le m0
  have hj : j < M.length := by omega
  have g1 : subOp (.lst (M.map spN)) (.int (j : Int)) = .ok (spP ((M[j].1 : Int), (M[j].2 : Int))) := by
   show Res.of (atI (M.map spN) (j : Int)) = _
   rw [K03.atI_nat (x := spN M[j]) (by rw [List.getElem?_map, List.getElem?_eq_getElem hj]; rfl)]
   rfl
  have hop : opn rows (M[j].1 : Int) (M[j].2 : Int) = true := opn_iff.2 ⟨by omega, by omega, by simpa using (hM _ _).1 (List.getElem_mem hj)⟩
  obtain ⟨n, en, n0, n10⟩ := hp ns 67 10 (by decide) (by decide)
  have s62 : small62 n = true := by simp only [small62, Bool.and_eq_true, decide_eq_true_eq]; omega
  have eml : F "_law_pick" [scr ns, .int 66, .int ((M.map spN).length : Int)] = .ok (.int (j : Int)) := by rw [List.length_map]; exact em
  generalize M.map spN = MM at enl g1 eml ⊢
  obtain ⟨P, q, u6, u10, ew, lP, hv⟩ := walk_ok F hp hst ns L (sl := sl) V (p0 := ((M[j].1 : Int), (M[j].2 : Int))) hop (.lst MM) (sp a b) Z due t6 t7 n n0 n10
  have hl50 : (P ++ [q]).length ≤ 50 := by rw [List.length_append, List.length_singleton]; omega
  have hne : P ++ [q] ≠ [] := by simp
  have r1 := t2 (P ++ [q]) hne hl50 hv
  have r2 := hru (P ++ [q]) hne hl50 (valid_near hv)
  obtain ⟨g2, g3⟩ := runs_good hv hl50
  have r5 := lastW P q
  have r6 := ne_runs (runs (P ++ [q]))
  have r7 := ne_way (P ++ [q])
  have hb := t3 (way (P ++ [q] ++ [(q.1 + 2, q.2)])) (Th_way (by simp only [List.length_append, List.length_singleton]; omega)) (by
   rw [← Bool.not_eq_true, due_way rows sl cl pr (by simp)]
   exact bad_far rows sl cl pr P q)
  have ht := t3 (.tup ((P ++ [q]).map spP)) (.t _) rfl
  rw [wsn] at hb
  obtain ⟨p1, Q, hPQ⟩ : ∃ p1 Q, P ++ [q] = p1 :: Q := by
   cases P with
   | nil => exact ⟨_, _, rfl⟩
   | cons x xs => exact ⟨_, _, rfl⟩
  have r3 := (htr rows w L sl cl pr V .non).2.2 p1 (runs (P ++ [q])) g2 (by rw [g3, nms_len]; omega)
  rw [hPQ] at hv
  rw [if_pos (hv.1 p1 (List.mem_cons_self ..)), g3, hPQ, by_back hv, ← hPQ] at r3
  simp only [triedR] at r3
  have r8 : subOp (way (P ++ [q])) (.int 0) = .ok (spP p1) := by
   rw [hPQ]
   show Res.of (atI ((p1 :: Q).map spP) ((0 : Nat) : Int)) = _
   rw [K03.atI_nat (x := spP p1) rfl]
   rfl
  have hway : way (P ++ [q]) = .lst ((P ++ [q]).map spP) := rfl
  have l1 : ((P ++ [q]).map spP).length + 1 ≤ LIM := Nat.le_trans (m := 100) (by rw [List.length_map]; omega) (by decide)
  rw [hway] at r1 r2 r3 r5 r7 r8 ew
  generalize (P ++ [q]).map spP = W at r1 r2 r3 r5 r7 r8 ew hb ht l1
  generalize runP (runs (P ++ [q])) = RR at r1 r2 r3 r6
  have c2 : opEq (.lst [.str "no way", .str "no way"]) (.lst [.str "no way", .str "no way"]) = .ok (.bl true) := rfl
  have c3 : binOp .mul (.lst [.str "no way"]) (.int 2) = .ok (.lst [.str "no way", .str "no way"]) := rfl
  have c4 : (1 + 1 : Nat) < LIM := by decide
  simp only [sBody, runD, exSs, exS, evE, evEs, evO, evI, capt, tyOp, isTy, List.replicate, Nat.reduceAdd, Nat.reduceSub, reduceIte, ite_true, ite_false, J, J2] at ew
  simp only [oTail, runD, exSs, exS, evE, evEs, evO, evI, capt, tyOp, isTy, List.replicate, Nat.reduceAdd, Nat.reduceSub, reduceIte, ite_true, ite_false, J, J2, t1, hnd, enl, eml, g1, en, s62, ew, List.modify_succ_cons, List.modify_zero_cons, fxo, fxv, r1, r2, r6, r8, r3, r7, r5, ngI, l1, itT, compL, hb, ht, oc, c2, c3, c4]
theorem once_ok (F : Fns) (hp : PickOk F) (hfl : ∀ ns, ∃ rows w, Fl rows w ∧ F "_law_floor" [scr ns, .int 0, .int 6] = .ok (fl rows)) (hwk : ∀ ns, ∃ sl cl pr, Wk cl pr ∧ F "_law_walker" [scr ns, .int 50] = .ok (wk sl cl pr)) (hsp : SpotsOk F)
 (han : ∀ ns rows w, Fl rows w → ∃ a b, F "_law_any_spot" [scr ns, .int 55, fl rows] = .ok (sp a b)) (hst : StepsOk F) (hle : LedOk F) (hru : LRunsOk F) (htr : TriedOk F) (ns : List Int) : runD F d__law_once [scr ns] = .ok (.bl true) := by
 obtain ⟨rows, w, L, ef⟩ := hfl ns
 obtain ⟨sl, cl, pr, V, ek⟩ := hwk ns
 obtain ⟨M, eM, lM, hM⟩ := hsp rows L.rok
 obtain ⟨a, b, ea⟩ := han ns rows w L
 obtain ⟨n, en, n0, n4⟩ := hp ns 57 4 (by decide) (by decide)
 have s62 : small62 n = true := by simp only [small62, Bool.and_eq_true, decide_eq_true_eq]; omega
 obtain ⟨R, t6, t7, eR, lR, hR⟩ := draw_ok F hp ns (fl rows) (wk sl cl pr) (.lst (M.map spN)) (sp a b) n n0 n4
 have hf := flat_len hR
 have hR' : ∀ x ∈ R, x.1 ∈ dirs ∧ 0 ≤ x.2 ∧ x.2 ≤ 50 := fun x hx => by
  have := hR x hx
  exact ⟨this.1, this.2.1, by omega⟩
 have t1 := (htr rows w L sl cl pr V .non).2.2 (a, b) R hR' (by omega)
 have ein := inE M rows hM a b
 have hlw := fun h => hle rows w L sl cl pr V (a, b) R hR' (by omega) h
 simp only at t1 hlw
 cases ho : opn rows a b with
 | true =>
  have el := hlw ho
  rw [ho] at t1 ein
  rw [if_pos rfl] at t1
  rw [← tried_by] at el
  have tail := tail_ok F hp hst hru htr ns L (sl := sl) V M hM a b (runP R) _ _ t1 (ne_by ..) t6 t7
  generalize triedR (byR rows sl cl pr (a, b) (flat R)) = due at el tail
  generalize runP R = Z at eR el tail
  generalize M.map spN = MM at eM eR ein tail
  simp only [rBody, runD, exSs, exS, evE, evEs, evO, evI, capt, tyOp, isTy, List.replicate, Nat.reduceAdd, Nat.reduceSub, reduceIte, ite_true, ite_false, J, J2] at eR
  simp only [d__law_once, runD, exSs, exS, evE, evEs, evO, evI, capt, tyOp, isTy, List.replicate, Nat.reduceAdd, Nat.reduceSub, reduceIte, ite_true, ite_false, J, J2, ef, ek, eM, ea, en, s62, eR, ein, List.modify_succ_cons, List.modify_zero_cons, fxo, fxv, el, tail]
 | false =>
  rw [ho] at t1 ein
  rw [if_neg (by decide)] at t1
  have tail := tail_ok F hp hst hru htr ns L (sl := sl) V M hM a b (runP R) _ (.str "no spot") t1 rfl t6 t7
  generalize runP R = Z at eR tail
  generalize M.map spN = MM at eM eR ein tail
  simp only [rBody, runD, exSs, exS, evE, evEs, evO, evI, capt, tyOp, isTy, List.replicate, Nat.reduceAdd, Nat.reduceSub, reduceIte, ite_true, ite_false, J, J2] at eR
  simp only [d__law_once, runD, exSs, exS, evE, evEs, evO, evI, capt, tyOp, isTy, List.replicate, Nat.reduceAdd, Nat.reduceSub, reduceIte, ite_true, ite_false, J, J2, ef, ek, eM, ea, en, s62, eR, ein, List.modify_succ_cons, List.modify_zero_cons, fxo, fxv, tail]
end K20
set_option maxHeartbeats 4000000
namespace K20
open PySem L2 Ci K71 K03
def yBody : Ss := (.cons (.ite (.not (.call "_law_once" (.cons (.comp 1 [1] (.one 0) (.seq (.var 0)) (.bin .add (.var 0) (.bin .mul (.cst (.int 7919)) (.var 1)))) .nil)))
 (.cons (.ret (.cst (.bl false)))
 .nil)
 .nil)
 (.cons (.ite (.cmp .eq (.var 0) (.lst .nil))
  (.cons .brk
  .nil)
  .nil)
 .nil))
theorem ybody_ok (F : Fns) (ho : ∀ ns, F "_law_once" [scr ns] = .ok (.bl true)) (ns : List Int) (hl : ns.length ≤ 63) (t : Int) : exSs F yBody [.val (scr ns), .val (.int t)] = .ok (if ns = [] then .bk [.val (scr ns), .val (.int t)] else .nx [.val (scr ns), .val (.int t)]) := by
 have l : ns.length < LIM := Nat.lt_of_le_of_lt hl (by decide)
 have s : (small64 7919 || small64 t) = true := by rw [Bool.or_eq_true]; exact .inl (by decide)
 simp only [yBody, runD, exSs, exS, evE, evEs, evO, evI, capt, tyOp, isTy, List.replicate, Nat.reduceAdd, Nat.reduceSub, reduceIte, ite_true, ite_false, J, itL, List.length_map, l]
 rw [compL_map (g := fun n : Int => .int (n + 7919 * t)) (fun n _ => by simp only [runD, exSs, exS, evE, evEs, evO, evI, capt, tyOp, isTy, List.replicate, Nat.reduceAdd, Nat.reduceSub, reduceIte, ite_true, ite_false, J, s])]
 have e := ho (ns.map fun n => n + 7919 * t)
 simp only [scr, List.map_map, Function.comp_def] at e
 simp only [runD, exSs, exS, evE, evEs, evO, evI, capt, tyOp, isTy, List.replicate, Nat.reduceAdd, Nat.reduceSub, reduceIte, ite_true, ite_false, J, e, eq_nil]
 by_cases h : ns = []
 ·simp only [h, decide_true, runD, exSs, exS, evE, evEs, evO, evI, capt, tyOp, isTy, List.replicate, Nat.reduceAdd, Nat.reduceSub, reduceIte, ite_true, ite_false, J]
 ·simp only [h, decide_false, runD, exSs, exS, evE, evEs, evO, evI, capt, tyOp, isTy, List.replicate, Nat.reduceAdd, Nat.reduceSub, reduceIte, ite_true, ite_false, J]
theorem law_ok (F : Fns) (ho : ∀ ns, F "_law_once" [scr ns] = .ok (.bl true)) (ns : List Int) (hl : ns.length ≤ 63) : runD F d_law [scr ns] = .ok (.bl true) := by
 have e : ∃ t : Int, forL (fun x env => ((Tg.one 1).put x env).bind fun env' => exSs F yBody env') (rngP 0 (7 : Int).toNat) [.val (scr ns), .no] = .ok (.nx [.val (scr ns), .val (.int t)]) := by
  rw [show rngP 0 (7 : Int).toNat = [.int 0, .int 1, .int 2, .int 3, .int 4, .int 5, .int 6] from rfl]
  by_cases h : ns = []
  ·refine ⟨0, ?_⟩
   simp only [forL, tgp, bok, List.set_cons_succ, List.set_cons_zero, ybody_ok F ho ns hl, if_pos h]
  ·refine ⟨6, ?_⟩
   simp only [forL, tgp, bok, List.set_cons_succ, List.set_cons_zero, ybody_ok F ho ns hl, h, if_false]
 obtain ⟨t, e⟩ := e
 have s : small62 7 = true := by decide
 simp only [yBody, runD, exSs, exS, evE, evEs, evO, evI, capt, tyOp, isTy, List.replicate, Nat.reduceAdd, Nat.reduceSub, reduceIte, ite_true, ite_false, J] at e
 simp only [d_law, runD, exSs, exS, evE, evEs, evO, evI, capt, tyOp, isTy, List.replicate, Nat.reduceAdd, Nat.reduceSub, reduceIte, ite_true, ite_false, J, s, e]
theorem hlawT (ns : List Int) (hl : ns.length ≤ 63) : runD (den T33) d_law [scr ns] = .ok (.bl true) := by
 have pick : ∀ F : Fns, F "_law_pick" = runD (den T1) d__law_pick → PickOk F := fun F hF ns k q hk hq => by
  rw [hF]
  exact pick_ok (den T1) (fun ns k hk => by rw [dT1_1]; exact cell_ok _ ns k hk) ns k q hk hq
 have lawcost : LawCostOk (den T7) := fun rows w L sl cl pr V r c r' c' h h' hf => by
  rw [dT7_7]
  exact lawcost_ok _ L V h h' hf
 have steps : ∀ F : Fns, F "_law_steps" = runD (den T7) d__law_steps → StepsOk F := fun F hF => by
  unfold StepsOk
  rw [hF]
  exact steps_ok _ lawcost
 have spots : ∀ F : Fns, F "_law_spots" = runD (den T4) d__law_spots → SpotsOk F := fun F hF rows R => by
  rw [hF]
  exact spots_ok _ rows R
 have whole : ∀ i, den T12 "is_whole" [.int i] = .ok (.bl true) := fun i => by rw [dT12_12]; exact is_whole_int _ i
 have wholeS : ∀ z, den T12 "is_whole" [.str z] = .ok (.bl false) := fun z => by rw [dT12_12]; rfl
 have spotV : ∀ x, El x → den T14 "is_spot" [x] = .ok (.bl (isSp x)) := fun x hx => by
  rw [dT14_13]
  exact spotV_ok _ whole wholeS hx
 have on : ∀ rows, Rok rows → ∀ r c, den T14 "is_on_floor" [fl rows, sp r c] = .ok (.bl (decide (0 ≤ r) && decide (0 ≤ c) && (cd rows r.toNat c.toNat).isSome)) := fun rows R r c => by
  rw [dT14_14]
  exact on_ok _ rows R r c
 have openV : ∀ F : Fns, F "is_open" = runD (den T14) d_is_open → OpenV F := fun F hF rows R x hx => by
  rw [hF]
  exact openV_ok _ spotV on R hx
 have openS : ∀ F : Fns, F "is_open" = runD (den T14) d_is_open → OpenOk F := fun F hF rows R r c => openV F hF rows R (sp r c) (.inr (.inl ⟨r, c, rfl⟩))
 have needF : ∀ F : Fns, F "need_open" = runD (den T17) d_need_open → NeedOk F := fun F hF rows R r c => by
  rw [hF]
  exact need_full _ (openS _ dT17_15) rows R r c
 have nopen : ∀ rows, Rok rows → ∀ r c, opn rows r c = true → den T18 "need_open" [fl rows, sp r c] = .ok .non := fun rows R r c h => by
  have := needF _ dT18_18 rows R r c
  rw [h] at this
  exact this
 have step : ∀ F : Fns, F "step_cost" = runD (den T20) d_step_cost → StepOk F := fun F hF rows w L sl cl pr V r c r' c' h h' => by
  rw [hF]
  exact step_ok _ (fun r c r' c' => by rw [dT20_17]; exact beside_ok _ r c r' c') (fun rows R r c r' c' => by rw [dT20_20]; exact corners_ok _ (openS _ dT19_15) R r c r' c') (fun rows w L r c h => by rw [dT20_19]; exact height_ok _ nopen L h) L V h h'
 have along : AlongOk (den T22) := fun rows w L sl cl pr V P hP hn => by
  rw [dT22_22]
  exact along_ok _ (step _ dT21_21) L V hP hn
 have lst : ListOk (den T22) := fun rows R th h => by
  rw [dT22_16]
  exact islist_ok _ (openV _ dT15_15) R h
 have way_ : WayOk (den T23) := fun rows w L sl cl pr V th h => by
  rw [dT23_23]
  exact isway_ok _ lst along L V h
 have need : NeedWayOk (den T25) := fun rows w L sl cl pr V th h => by
  rw [dT25_24]
  exact needway_ok _ way_ L V h
 have sum : SumOk (den T9) := fun rows w L sl cl pr V th h => by
  rw [dT9_9]
  exact lawsum_ok _ (spots _ dT8_5) (steps _ dT8_8) L V h
 have dir : DirOk (den T25) := fun p q => by
  rw [dT25_25]
  exact dir_ok _ p.1 p.2 q.1 q.2
 have rof : RunsOfOk (den T29) := fun rows w L sl cl pr V => by
  rw [dT29_26]
  exact ⟨fun P hne hl hv => runsof_ok _ need dir L V hne hl ((due_way rows sl cl pr hne).2 hv), fun th ht hd => runsof_no _ need L V ht hd⟩
 have aft : AfterOk (den T28) := fun rows w L sl cl pr V q d h => by
  rw [dT28_28]
  exact after_ok _ (fun p d => by rw [dT27_27]; exact beside_sp _ p d) (openS _ dT27_15) (step _ dT27_21) L V q d h
 have wby : WayByOk (den T29) := fun rows w L sl cl pr V q R hR hl => by
  rw [dT29_29]
  exact wayby_ok _ (needF _ dT28_18) aft L V q hR hl
 refine law_ok _ (fun ns => ?_) ns hl
 rw [dT33_33]
 exact once_ok _ (pick _ dT32_2) (fun ns => by rw [dT32_3]; exact floor_ok3 _ (pick _ dT2_2) ns 6 (by decide) (by decide)) (fun ns => by rw [dT32_4]; exact walker_ok _ (pick _ dT3_2) ns 50 (by decide)) (spots _ dT32_5)
  (fun ns rows w L => by rw [dT32_6]; exact any_ok _ (pick _ dT5_2) ns 55 (by decide) L) (steps _ dT32_8)
  (fun rows w L sl cl pr V q R hR hl hq => by rw [dT32_10]; exact led_ok _ sum L V q hR hl hq)
  (fun P hne hl hN => by rw [dT32_32]; exact lruns_ok _ (fun p q h => by rw [dT31_31]; exact name_ok _ p.1 p.2 q.1 q.2 h.1 h.2.1 h.2.2.1 h.2.2.2) hne hl hN)
  (fun rows w L sl cl pr V S => by rw [dT32_30]; exact tried_ok _ (by rw [dT29_11]; exact word_ok _) (by rw [dT29_11]; exact wordS _) rof wby rows w L sl cl pr V S) ns
end K20
set_option maxHeartbeats 8000000
namespace Hd
open PySem PySem.W L2
abbrev fo (n : Str) (st : Stmt) (pm : Value) (c : Addr) : Obj := ⟨.type "function", none, .func (fnOf n n (defArgs st) (defBody st) (defScope st) .none .none .none pm none (.ref c) .none), #[]⟩
def dpos (s : Stmt) : Pos := match s with
 | .FunctionDef _ _ _ _ _ _ _ _ _ p => p
 | _ => ⟨0, 0, 0, 0⟩
theorem ent {K : Frag} {n : Str} {st : Stmt} (f c : Addr) (pm : Value) (a : nsIn K mainGlobals n = some (some (.ref f)) := by kernel_rfl) (l : K.lookup f = some (fo n st pm c) := by kernel_rfl) (d : codeIn K (.ref c) n = true := by kernel_rfl) (k : keepIn K (.ref f) = true := by kernel_rfl) : Ci.EntK K n st := Ci.entK a l d k
end Hd
namespace K20
open PySem L2 Ci
abbrev lw := PySem.Challenge.rw_cellways_k20_runs
def top (i : Nat) : Stmt := PySem.Challenge.pw_cellways_k20_runs.main.body.getD i (.Pass ⟨0, 0, 0, 0⟩)
def K (P : Params) : PySem.W.Frag := [(2, { cls := .none, data := .dict #[] }),
 (3, { cls := .type "dict", data := .dict #[Hd.de P "__name__" 165 (.str "law_cellways_k20_runs" 454), Hd.de P "__doc__" 166 (.none), Hd.de P "__package__" 167 (.none), Hd.de P "__loader__" 168 (.builtin "__main__.__loader__#opaque"), Hd.de P "__spec__" 169 (.none), Hd.de P "__annotations__" 170 (.ref 6), Hd.de P "__builtins__" 171 (.ref 4), Hd.de P "__file__" 173 (.str "/claim/cut.py" 172), Hd.de P "__cached__" 174 (.none), Hd.de P "FloorError" 206 (.ref 24), Hd.de P "NoSpot" 222 (.ref 37), Hd.de P "NoWay" 238 (.ref 49), Hd.de P "NoSign" 254 (.ref 61), Hd.de P "NoSize" 270 (.ref 73), Hd.de P "WALL" 274 (.str "#" 273), Hd.de P "STRAIGHT_COST" 276 (.int 2 275), Hd.de P "SLANTING_COST" 278 (.int 3 277), Hd.de P "is_whole" 285 (.ref 82), Hd.de P "is_spot" 292 (.ref 89), Hd.de P "is_on_floor" 300 (.ref 96), Hd.de P "is_open" 308 (.ref 103), Hd.de P "need_open" 316 (.ref 110), Hd.de P "height_at" 324 (.ref 117), Hd.de P "are_beside" 332 (.ref 124), Hd.de P "has_open_corners" 341 (.ref 131), Hd.de P "step_cost" 354 (.ref 138), Hd.de P "is_list_of_open_spots" 360 (.ref 143), Hd.de P "is_way" 369 (.ref 150), Hd.de P "costs_along" 375 (.ref 155), Hd.de P "need_way" 384 (.ref 162), Hd.de P "DIRECTIONS" 395 (.ref 163), Hd.de P "direction_of" 405 (.ref 170), Hd.de P "spot_beside" 415 (.ref 177), Hd.de P "runs_of" 428 (.ref 184), Hd.de P "after_step" 439 (.ref 191), Hd.de P "way_by" 453 (.ref 198), Hd.de P "_law_cell" 463 (.ref 205), Hd.de P "_law_pick" 473 (.ref 212), Hd.de P "_law_floor" 491 (.ref 219), Hd.de P "_law_walker" 499 (.ref 226), Hd.de P "_law_spots" 505 (.ref 231), Hd.de P "_law_cost" 517 (.ref 238), Hd.de P "_law_steps" 531 (.ref 245), Hd.de P "_law_sum" 537 (.ref 250), Hd.de P "_law_word" 545 (.ref 257), Hd.de P "_law_name" 553 (.ref 264), Hd.de P "_law_runs" 564 (.ref 271), Hd.de P "_law_any_spot" 573 (.ref 278), Hd.de P "_law_tried" 587 (.ref 285), Hd.de P "_law_led" 602 (.ref 292), Hd.de P "_law_once" 608 (.ref 297), Hd.de P "law" 614 (.ref 302)] 52 }),
 (23, { cls := .type "dict", data := .dict #[Hd.de P "__module__" 196 (.str "cellways.errors" 187), Hd.de P "__firstlineno__" 200 (.int 2 199), Hd.de P "__static_attributes__" 201 (.ref 22), Hd.de P "__weakref__" 203 (.ref 25), Hd.de P "__doc__" 204 (.none)] 3 }),
 (24, { cls := .type "type", data := .cls { name := "FloorError", bases := [.type "ValueError"], mro := [.ref 24, .type "ValueError", .type "Exception", .type "BaseException", .type "object"], ns := 23, qualname := "FloorError", subclasses := [.ref 37, .ref 49, .ref 61, .ref 73] }, slots := #[some (.ref 15), none, some (.str "FloorError" 189), some (.str "FloorError" 197), some (.builtin "ValueError.__new__"), some (.bool Bool.true)] }),
 (36, { cls := .type "dict", data := .dict #[Hd.de P "__module__" 214 (.str "cellways.errors" 187), Hd.de P "__firstlineno__" 218 (.int 4 217), Hd.de P "__static_attributes__" 219 (.ref 35), Hd.de P "__doc__" 220 (.none)] 2 }),
 (37, { cls := .type "type", data := .cls { name := "NoSpot", bases := [.ref 24], mro := [.ref 37, .ref 24, .type "ValueError", .type "Exception", .type "BaseException", .type "object"], ns := 36, qualname := "NoSpot" }, slots := #[some (.ref 28), none, some (.str "NoSpot" 207), some (.str "NoSpot" 215), some (.builtin "ValueError.__new__"), some (.bool Bool.true)] }),
 (48, { cls := .type "dict", data := .dict #[Hd.de P "__module__" 230 (.str "cellways.errors" 187), Hd.de P "__firstlineno__" 234 (.int 6 233), Hd.de P "__static_attributes__" 235 (.ref 47), Hd.de P "__doc__" 236 (.none)] 2 }),
 (49, { cls := .type "type", data := .cls { name := "NoWay", bases := [.ref 24], mro := [.ref 49, .ref 24, .type "ValueError", .type "Exception", .type "BaseException", .type "object"], ns := 48, qualname := "NoWay" }, slots := #[some (.ref 40), none, some (.str "NoWay" 223), some (.str "NoWay" 231), some (.builtin "ValueError.__new__"), some (.bool Bool.true)] }),
 (60, { cls := .type "dict", data := .dict #[Hd.de P "__module__" 246 (.str "cellways.errors" 187), Hd.de P "__firstlineno__" 250 (.int 8 249), Hd.de P "__static_attributes__" 251 (.ref 59), Hd.de P "__doc__" 252 (.none)] 2 }),
 (61, { cls := .type "type", data := .cls { name := "NoSign", bases := [.ref 24], mro := [.ref 61, .ref 24, .type "ValueError", .type "Exception", .type "BaseException", .type "object"], ns := 60, qualname := "NoSign" }, slots := #[some (.ref 52), none, some (.str "NoSign" 239), some (.str "NoSign" 247), some (.builtin "ValueError.__new__"), some (.bool Bool.true)] }),
 (72, { cls := .type "dict", data := .dict #[Hd.de P "__module__" 262 (.str "cellways.errors" 187), Hd.de P "__firstlineno__" 266 (.int 10 265), Hd.de P "__static_attributes__" 267 (.ref 71), Hd.de P "__doc__" 268 (.none)] 2 }),
 (73, { cls := .type "type", data := .cls { name := "NoSize", bases := [.ref 24], mro := [.ref 73, .ref 24, .type "ValueError", .type "Exception", .type "BaseException", .type "object"], ns := 72, qualname := "NoSize" }, slots := #[some (.ref 64), none, some (.str "NoSize" 255), some (.str "NoSize" 263), some (.builtin "ValueError.__new__"), some (.bool Bool.true)] }),
 (81, { cls := .type "code", data := .fields #[.str "is_whole" 279, .str "is_whole" 280, .str "/claim/cut.py" 281, .int 16 0, .int 1 0, .int 0 0, .int 0 0, .int 3 0, .ref 76, .bool Bool.true, .int 181 0, .ref 77, .none, .ref 78, .ref 79, .ref 80, .int 283 0, .int 16 0, .str "/claim/cut.py" 284] }),
 (82, Hd.fo "is_whole" (top 10) (.str "cellways.floors" 271) 81),
 (88, { cls := .type "code", data := .fields #[.str "is_spot" 286, .str "is_spot" 287, .str "/claim/cut.py" 288, .int 18 0, .int 1 0, .int 0 0, .int 0 0, .int 3 0, .ref 83, .bool Bool.true, .int 181 0, .ref 84, .none, .ref 85, .ref 86, .ref 87, .int 290 0, .int 18 0, .str "/claim/cut.py" 291] }),
 (89, Hd.fo "is_spot" (top 11) (.str "cellways.floors" 271) 88),
 (95, { cls := .type "code", data := .fields #[.str "is_on_floor" 293, .str "is_on_floor" 294, .str "/claim/cut.py" 295, .int 20 0, .int 2 0, .int 0 0, .int 0 0, .int 3 0, .ref 90, .bool Bool.true, .int 181 0, .ref 91, .none, .ref 92, .ref 93, .ref 94, .int 298 0, .int 20 0, .str "/claim/cut.py" 299] }),
 (96, Hd.fo "is_on_floor" (top 12) (.str "cellways.floors" 271) 95),
 (102, { cls := .type "code", data := .fields #[.str "is_open" 301, .str "is_open" 302, .str "/claim/cut.py" 303, .int 22 0, .int 2 0, .int 0 0, .int 0 0, .int 3 0, .ref 97, .bool Bool.true, .int 181 0, .ref 98, .none, .ref 99, .ref 100, .ref 101, .int 306 0, .int 22 0, .str "/claim/cut.py" 307] }),
 (103, Hd.fo "is_open" (top 13) (.str "cellways.floors" 271) 102),
 (109, { cls := .type "code", data := .fields #[.str "need_open" 309, .str "need_open" 310, .str "/claim/cut.py" 311, .int 24 0, .int 2 0, .int 0 0, .int 0 0, .int 3 0, .ref 104, .bool Bool.true, .int 181 0, .ref 105, .none, .ref 106, .ref 107, .ref 108, .int 314 0, .int 24 0, .str "/claim/cut.py" 315] }),
 (110, Hd.fo "need_open" (top 14) (.str "cellways.floors" 271) 109),
 (116, { cls := .type "code", data := .fields #[.str "height_at" 317, .str "height_at" 318, .str "/claim/cut.py" 319, .int 27 0, .int 2 0, .int 0 0, .int 0 0, .int 3 0, .ref 111, .bool Bool.true, .int 181 0, .ref 112, .none, .ref 113, .ref 114, .ref 115, .int 322 0, .int 27 0, .str "/claim/cut.py" 323] }),
 (117, Hd.fo "height_at" (top 15) (.str "cellways.floors" 271) 116),
 (123, { cls := .type "code", data := .fields #[.str "are_beside" 325, .str "are_beside" 326, .str "/claim/cut.py" 327, .int 30 0, .int 2 0, .int 0 0, .int 0 0, .int 3 0, .ref 118, .bool Bool.true, .int 181 0, .ref 119, .none, .ref 120, .ref 121, .ref 122, .int 330 0, .int 30 0, .str "/claim/cut.py" 331] }),
 (124, Hd.fo "are_beside" (top 16) (.str "cellways.floors" 271) 123),
 (130, { cls := .type "code", data := .fields #[.str "has_open_corners" 333, .str "has_open_corners" 334, .str "/claim/cut.py" 335, .int 32 0, .int 3 0, .int 0 0, .int 0 0, .int 3 0, .ref 125, .bool Bool.true, .int 181 0, .ref 126, .none, .ref 127, .ref 128, .ref 129, .int 339 0, .int 32 0, .str "/claim/cut.py" 340] }),
 (131, Hd.fo "has_open_corners" (top 17) (.str "cellways.floors" 271) 130),
 (137, { cls := .type "code", data := .fields #[.str "step_cost" 342, .str "step_cost" 343, .str "/claim/cut.py" 344, .int 34 0, .int 4 0, .int 0 0, .int 0 0, .int 3 0, .ref 132, .bool Bool.true, .int 181 0, .ref 133, .none, .ref 134, .ref 135, .ref 136, .int 352 0, .int 34 0, .str "/claim/cut.py" 353] }),
 (138, Hd.fo "step_cost" (top 18) (.str "cellways.floors" 271) 137),
 (142, { cls := .type "code", data := .fields #[.str "is_list_of_open_spots" 355, .str "is_list_of_open_spots" 356, .str "/claim/cut.py" 357, .int 45 0, .int 2 0, .int 0 0, .int 0 0, .int 3 0, .ref 139, .bool Bool.true, .int 181 0, .ref 140, .none, .none, .none, .ref 141, .int 358 0, .int 45 0, .str "/claim/cut.py" 359] }),
 (143, Hd.fo "is_list_of_open_spots" (top 19) (.str "cellways.floors" 271) 142),
 (149, { cls := .type "code", data := .fields #[.str "is_way" 361, .str "is_way" 362, .str "/claim/cut.py" 363, .int 49 0, .int 3 0, .int 0 0, .int 0 0, .int 3 0, .ref 144, .bool Bool.true, .int 181 0, .ref 145, .none, .ref 146, .ref 147, .ref 148, .int 367 0, .int 49 0, .str "/claim/cut.py" 368] }),
 (150, Hd.fo "is_way" (top 20) (.str "cellways.floors" 271) 149),
 (154, { cls := .type "code", data := .fields #[.str "costs_along" 370, .str "costs_along" 371, .str "/claim/cut.py" 372, .int 51 0, .int 3 0, .int 0 0, .int 0 0, .int 3 0, .ref 151, .bool Bool.true, .int 181 0, .ref 152, .none, .none, .none, .ref 153, .int 373 0, .int 51 0, .str "/claim/cut.py" 374] }),
 (155, Hd.fo "costs_along" (top 21) (.str "cellways.floors" 271) 154),
 (161, { cls := .type "code", data := .fields #[.str "need_way" 376, .str "need_way" 377, .str "/claim/cut.py" 378, .int 53 0, .int 3 0, .int 0 0, .int 0 0, .int 3 0, .ref 156, .bool Bool.true, .int 181 0, .ref 157, .none, .ref 158, .ref 159, .ref 160, .int 382 0, .int 53 0, .str "/claim/cut.py" 383] }),
 (162, Hd.fo "need_way" (top 22) (.str "cellways.floors" 271) 161),
 (163, { cls := .type "tuple", data := .seq #[.str "n" 387, .str "s" 388, .str "w" 389, .str "e" 390, .str "ne" 391, .str "nw" 392, .str "se" 393, .str "sw" 394] }),
 (169, { cls := .type "code", data := .fields #[.str "direction_of" 396, .str "direction_of" 397, .str "/claim/cut.py" 398, .int 58 0, .int 2 0, .int 0 0, .int 0 0, .int 3 0, .ref 164, .bool Bool.true, .int 181 0, .ref 165, .none, .ref 166, .ref 167, .ref 168, .int 403 0, .int 58 0, .str "/claim/cut.py" 404] }),
 (170, Hd.fo "direction_of" (top 25) (.str "cellways.turns" 385) 169),
 (176, { cls := .type "code", data := .fields #[.str "spot_beside" 406, .str "spot_beside" 407, .str "/claim/cut.py" 408, .int 62 0, .int 2 0, .int 0 0, .int 0 0, .int 3 0, .ref 171, .bool Bool.true, .int 181 0, .ref 172, .none, .ref 173, .ref 174, .ref 175, .int 413 0, .int 62 0, .str "/claim/cut.py" 414] }),
 (177, Hd.fo "spot_beside" (top 26) (.str "cellways.turns" 385) 176),
 (183, { cls := .type "code", data := .fields #[.str "runs_of" 416, .str "runs_of" 417, .str "/claim/cut.py" 418, .int 66 0, .int 3 0, .int 0 0, .int 0 0, .int 3 0, .ref 178, .bool Bool.true, .int 181 0, .ref 179, .none, .ref 180, .ref 181, .ref 182, .int 426 0, .int 66 0, .str "/claim/cut.py" 427] }),
 (184, Hd.fo "runs_of" (top 27) (.str "cellways.turns" 385) 183),
 (190, { cls := .type "code", data := .fields #[.str "after_step" 429, .str "after_step" 430, .str "/claim/cut.py" 431, .int 76 0, .int 4 0, .int 0 0, .int 0 0, .int 3 0, .ref 185, .bool Bool.true, .int 181 0, .ref 186, .none, .ref 187, .ref 188, .ref 189, .int 437 0, .int 76 0, .str "/claim/cut.py" 438] }),
 (191, Hd.fo "after_step" (top 28) (.str "cellways.turns" 385) 190),
 (197, { cls := .type "code", data := .fields #[.str "way_by" 440, .str "way_by" 441, .str "/claim/cut.py" 442, .int 81 0, .int 4 0, .int 0 0, .int 0 0, .int 3 0, .ref 192, .bool Bool.true, .int 181 0, .ref 193, .none, .ref 194, .ref 195, .ref 196, .int 451 0, .int 81 0, .str "/claim/cut.py" 452] }),
 (198, Hd.fo "way_by" (top 29) (.str "cellways.turns" 385) 197),
 (204, { cls := .type "code", data := .fields #[.str "_law_cell" 456, .str "_law_cell" 457, .str "/claim/cut.py" 458, .int 91 0, .int 2 0, .int 0 0, .int 0 0, .int 3 0, .ref 199, .bool Bool.true, .int 181 0, .ref 200, .none, .ref 201, .ref 202, .ref 203, .int 461 0, .int 91 0, .str "/claim/cut.py" 462] }),
 (205, Hd.fo "_law_cell" (top 31) (.str "law_cellways_k20_runs" 454) 204),
 (211, { cls := .type "code", data := .fields #[.str "_law_pick" 464, .str "_law_pick" 465, .str "/claim/cut.py" 466, .int 97 0, .int 3 0, .int 0 0, .int 0 0, .int 3 0, .ref 206, .bool Bool.true, .int 181 0, .ref 207, .none, .ref 208, .ref 209, .ref 210, .int 471 0, .int 97 0, .str "/claim/cut.py" 472] }),
 (212, Hd.fo "_law_pick" (top 32) (.str "law_cellways_k20_runs" 454) 211),
 (218, { cls := .type "code", data := .fields #[.str "_law_floor" 474, .str "_law_floor" 475, .str "/claim/cut.py" 476, .int 100 0, .int 3 0, .int 0 0, .int 0 0, .int 3 0, .ref 213, .bool Bool.true, .int 181 0, .ref 214, .none, .ref 215, .ref 216, .ref 217, .int 489 0, .int 100 0, .str "/claim/cut.py" 490] }),
 (219, Hd.fo "_law_floor" (top 33) (.str "law_cellways_k20_runs" 454) 218),
 (225, { cls := .type "code", data := .fields #[.str "_law_walker" 492, .str "_law_walker" 493, .str "/claim/cut.py" 494, .int 113 0, .int 2 0, .int 0 0, .int 0 0, .int 3 0, .ref 220, .bool Bool.true, .int 181 0, .ref 221, .none, .ref 222, .ref 223, .ref 224, .int 497 0, .int 113 0, .str "/claim/cut.py" 498] }),
 (226, Hd.fo "_law_walker" (top 34) (.str "law_cellways_k20_runs" 454) 225),
 (230, { cls := .type "code", data := .fields #[.str "_law_spots" 500, .str "_law_spots" 501, .str "/claim/cut.py" 502, .int 115 0, .int 1 0, .int 0 0, .int 0 0, .int 3 0, .ref 227, .bool Bool.true, .int 181 0, .ref 228, .none, .none, .none, .ref 229, .int 503 0, .int 115 0, .str "/claim/cut.py" 504] }),
 (231, Hd.fo "_law_spots" (top 35) (.str "law_cellways_k20_runs" 454) 230),
 (237, { cls := .type "code", data := .fields #[.str "_law_cost" 506, .str "_law_cost" 507, .str "/claim/cut.py" 508, .int 120 0, .int 4 0, .int 0 0, .int 0 0, .int 3 0, .ref 232, .bool Bool.true, .int 181 0, .ref 233, .none, .ref 234, .ref 235, .ref 236, .int 515 0, .int 120 0, .str "/claim/cut.py" 516] }),
 (238, Hd.fo "_law_cost" (top 36) (.str "law_cellways_k20_runs" 454) 237),
 (244, { cls := .type "code", data := .fields #[.str "_law_steps" 518, .str "_law_steps" 519, .str "/claim/cut.py" 520, .int 130 0, .int 3 0, .int 0 0, .int 0 0, .int 3 0, .ref 239, .bool Bool.true, .int 181 0, .ref 240, .none, .ref 241, .ref 242, .ref 243, .int 529 0, .int 130 0, .str "/claim/cut.py" 530] }),
 (245, Hd.fo "_law_steps" (top 37) (.str "law_cellways_k20_runs" 454) 244),
 (249, { cls := .type "code", data := .fields #[.str "_law_sum" 532, .str "_law_sum" 533, .str "/claim/cut.py" 534, .int 140 0, .int 3 0, .int 0 0, .int 0 0, .int 3 0, .ref 246, .bool Bool.true, .int 181 0, .ref 247, .none, .none, .none, .ref 248, .int 535 0, .int 140 0, .str "/claim/cut.py" 536] }),
 (250, Hd.fo "_law_sum" (top 38) (.str "law_cellways_k20_runs" 454) 249),
 (256, { cls := .type "code", data := .fields #[.str "_law_word" 538, .str "_law_word" 539, .str "/claim/cut.py" 540, .int 151 0, .int 1 0, .int 0 0, .int 0 0, .int 3 0, .ref 251, .bool Bool.true, .int 181 0, .ref 252, .none, .ref 253, .ref 254, .ref 255, .int 543 0, .int 151 0, .str "/claim/cut.py" 544] }),
 (257, Hd.fo "_law_word" (top 39) (.str "law_cellways_k20_runs" 454) 256),
 (263, { cls := .type "code", data := .fields #[.str "_law_name" 546, .str "_law_name" 547, .str "/claim/cut.py" 548, .int 156 0, .int 2 0, .int 0 0, .int 0 0, .int 3 0, .ref 258, .bool Bool.true, .int 181 0, .ref 259, .none, .ref 260, .ref 261, .ref 262, .int 551 0, .int 156 0, .str "/claim/cut.py" 552] }),
 (264, Hd.fo "_law_name" (top 40) (.str "law_cellways_k20_runs" 454) 263),
 (270, { cls := .type "code", data := .fields #[.str "_law_runs" 554, .str "_law_runs" 555, .str "/claim/cut.py" 556, .int 158 0, .int 1 0, .int 0 0, .int 0 0, .int 3 0, .ref 265, .bool Bool.true, .int 181 0, .ref 266, .none, .ref 267, .ref 268, .ref 269, .int 562 0, .int 158 0, .str "/claim/cut.py" 563] }),
 (271, Hd.fo "_law_runs" (top 41) (.str "law_cellways_k20_runs" 454) 270),
 (277, { cls := .type "code", data := .fields #[.str "_law_any_spot" 565, .str "_law_any_spot" 566, .str "/claim/cut.py" 567, .int 167 0, .int 3 0, .int 0 0, .int 0 0, .int 3 0, .ref 272, .bool Bool.true, .int 181 0, .ref 273, .none, .ref 274, .ref 275, .ref 276, .int 571 0, .int 167 0, .str "/claim/cut.py" 572] }),
 (278, Hd.fo "_law_any_spot" (top 42) (.str "law_cellways_k20_runs" 454) 277),
 (284, { cls := .type "code", data := .fields #[.str "_law_tried" 574, .str "_law_tried" 575, .str "/claim/cut.py" 576, .int 169 0, .int 5 0, .int 0 0, .int 0 0, .int 3 0, .ref 279, .bool Bool.true, .int 181 0, .ref 280, .none, .ref 281, .ref 282, .ref 283, .int 585 0, .int 169 0, .str "/claim/cut.py" 586] }),
 (285, Hd.fo "_law_tried" (top 43) (.str "law_cellways_k20_runs" 454) 284),
 (291, { cls := .type "code", data := .fields #[.str "_law_led" 588, .str "_law_led" 589, .str "/claim/cut.py" 590, .int 179 0, .int 4 0, .int 0 0, .int 0 0, .int 3 0, .ref 286, .bool Bool.true, .int 181 0, .ref 287, .none, .ref 288, .ref 289, .ref 290, .int 600 0, .int 179 0, .str "/claim/cut.py" 601] }),
 (292, Hd.fo "_law_led" (top 44) (.str "law_cellways_k20_runs" 454) 291),
 (296, { cls := .type "code", data := .fields #[.str "_law_once" 603, .str "_law_once" 604, .str "/claim/cut.py" 605, .int 186 0, .int 1 0, .int 0 0, .int 0 0, .int 3 0, .ref 293, .bool Bool.true, .int 181 0, .ref 294, .none, .none, .none, .ref 295, .int 606 0, .int 186 0, .str "/claim/cut.py" 607] }),
 (297, Hd.fo "_law_once" (top 45) (.str "law_cellways_k20_runs" 454) 296),
 (301, { cls := .type "code", data := .fields #[.str "law" 609, .str "law" 610, .str "/claim/cut.py" 611, .int 213 0, .int 1 0, .int 0 0, .int 0 0, .int 3 0, .ref 298, .bool Bool.true, .int 181 0, .ref 299, .none, .none, .none, .ref 300, .int 612 0, .int 213 0, .str "/claim/cut.py" 613] }),
 (302, Hd.fo "law" (top 46) (.str "law_cellways_k20_runs" 454) 301)]
def as : List Addr := [2, 3, 23, 24, 36, 37, 48, 49, 60, 61, 72, 73, 81, 82, 88, 89, 95, 96, 102, 103, 109, 110, 116, 117, 123, 124, 130, 131, 137, 138, 142, 143, 149, 150, 154, 155, 161, 162, 163, 169, 170, 176, 177, 183, 184, 190, 191, 197, 198, 204, 205, 211, 212, 218, 219, 225, 226, 230, 231, 237, 238, 244, 245, 249, 250, 256, 257, 263, 264, 270, 271, 277, 278, 284, 285, 291, 292, 296, 297, 301, 302]
def Γ : Pg := ⟨[("WALL", (.str "#")), ("STRAIGHT_COST", (.int 2)), ("SLANTING_COST", (.int 3)), ("DIRECTIONS", (.tup [(.str "n"), (.str "s"), (.str "w"), (.str "e"), (.str "ne"), (.str "nw"), (.str "se"), (.str "sw")]))], ["len", "abs", "max", "int", "str", "list", "tuple", "all", "isinstance", "bool", "range", "enumerate", "zip", "ValueError"], ["FloorError", "NoSign", "NoSize", "NoSpot", "NoWay"], [], ["NoSpot", "NoWay"]⟩
def R0 : Rws := []
abbrev St (R : Rws) := Stat { Γ with fs := R.map (·.1) }
theorem st__law_cell : St R0 "_law_cell" d__law_cell (top 31) := stM fun _ _ _ _ _ _ => Hd.ar2 fun _ _ => rfl
def R1 : Rws := ("_law_cell", d__law_cell, top 31) :: R0
theorem st__law_pick : St R1 "_law_pick" d__law_pick (top 32) := stM fun _ _ _ _ _ _ => Hd.ar3 fun _ _ _ => rfl
def R2 : Rws := ("_law_pick", d__law_pick, top 32) :: R1
theorem st__law_floor : St R2 "_law_floor" d__law_floor (top 33) := stM fun _ _ _ _ _ _ => Hd.ar3 fun _ _ _ => rfl
def R3 : Rws := ("_law_floor", d__law_floor, top 33) :: R2
theorem st__law_walker : St R3 "_law_walker" d__law_walker (top 34) := stM fun _ _ _ _ _ _ => Hd.ar2 fun _ _ => rfl
def R4 : Rws := ("_law_walker", d__law_walker, top 34) :: R3
theorem st__law_spots : St R4 "_law_spots" d__law_spots (top 35) := stM fun _ _ _ _ _ _ => Hd.ar1 fun _ => rfl
def R5 : Rws := ("_law_spots", d__law_spots, top 35) :: R4
theorem st__law_any_spot : St R5 "_law_any_spot" d__law_any_spot (top 42) := stM fun _ _ _ _ _ _ => Hd.ar3 fun _ _ _ => rfl
def R6 : Rws := ("_law_any_spot", d__law_any_spot, top 42) :: R5
theorem st__law_cost : St R6 "_law_cost" d__law_cost (top 36) := stM fun _ _ _ _ _ _ => Hd.ar4 fun _ _ _ _ => rfl
def R7 : Rws := ("_law_cost", d__law_cost, top 36) :: R6
theorem st__law_steps : St R7 "_law_steps" d__law_steps (top 37) := stM fun _ _ _ _ _ _ => Hd.ar3 fun _ _ _ => rfl
def R8 : Rws := ("_law_steps", d__law_steps, top 37) :: R7
theorem st__law_sum : St R8 "_law_sum" d__law_sum (top 38) := stM fun _ _ _ _ _ _ => Hd.ar3 fun _ _ _ => rfl
def R9 : Rws := ("_law_sum", d__law_sum, top 38) :: R8
theorem st__law_led : St R9 "_law_led" d__law_led (top 44) := stM fun _ _ _ _ _ _ => Hd.ar4 fun _ _ _ _ => rfl
def R10 : Rws := ("_law_led", d__law_led, top 44) :: R9
theorem st__law_word : St R10 "_law_word" d__law_word (top 39) := stM fun _ _ _ _ _ _ => Hd.ar1 fun _ => rfl
def R11 : Rws := ("_law_word", d__law_word, top 39) :: R10
theorem st_is_whole : St R11 "is_whole" d_is_whole (top 10) := stM fun _ _ _ _ _ _ => Hd.ar1 fun _ => rfl
def R12 : Rws := ("is_whole", d_is_whole, top 10) :: R11
theorem st_is_spot : St R12 "is_spot" d_is_spot (top 11) := stM fun _ _ _ _ _ _ => Hd.ar1 fun _ => rfl
def R13 : Rws := ("is_spot", d_is_spot, top 11) :: R12
theorem st_is_on_floor : St R13 "is_on_floor" d_is_on_floor (top 12) := stM fun _ _ _ _ _ _ => Hd.ar2 fun _ _ => rfl
def R14 : Rws := ("is_on_floor", d_is_on_floor, top 12) :: R13
theorem st_is_open : St R14 "is_open" d_is_open (top 13) := stM fun _ _ _ _ _ _ => Hd.ar2 fun _ _ => rfl
def R15 : Rws := ("is_open", d_is_open, top 13) :: R14
theorem st_is_list_of_open_spots : St R15 "is_list_of_open_spots" d_is_list_of_open_spots (top 19) := stM fun _ _ _ _ _ _ => Hd.ar2 fun _ _ => rfl
def R16 : Rws := ("is_list_of_open_spots", d_is_list_of_open_spots, top 19) :: R15
theorem st_are_beside : St R16 "are_beside" d_are_beside (top 16) := stM fun _ _ _ _ _ _ => Hd.ar2 fun _ _ => rfl
def R17 : Rws := ("are_beside", d_are_beside, top 16) :: R16
theorem st_need_open : St R17 "need_open" d_need_open (top 14) := stM fun _ _ _ _ _ _ => Hd.ar2 fun _ _ => rfl
def R18 : Rws := ("need_open", d_need_open, top 14) :: R17
theorem st_height_at : St R18 "height_at" d_height_at (top 15) := stM fun _ _ _ _ _ _ => Hd.ar2 fun _ _ => rfl
def R19 : Rws := ("height_at", d_height_at, top 15) :: R18
theorem st_has_open_corners : St R19 "has_open_corners" d_has_open_corners (top 17) := stM fun _ _ _ _ _ _ => Hd.ar3 fun _ _ _ => rfl
def R20 : Rws := ("has_open_corners", d_has_open_corners, top 17) :: R19
theorem st_step_cost : St R20 "step_cost" d_step_cost (top 18) := stM fun _ _ _ _ _ _ => Hd.ar4 fun _ _ _ _ => rfl
def R21 : Rws := ("step_cost", d_step_cost, top 18) :: R20
theorem st_costs_along : St R21 "costs_along" d_costs_along (top 21) := stM fun _ _ _ _ _ _ => Hd.ar3 fun _ _ _ => rfl
def R22 : Rws := ("costs_along", d_costs_along, top 21) :: R21
theorem st_is_way : St R22 "is_way" d_is_way (top 20) := stM fun _ _ _ _ _ _ => Hd.ar3 fun _ _ _ => rfl
def R23 : Rws := ("is_way", d_is_way, top 20) :: R22
theorem st_need_way : St R23 "need_way" d_need_way (top 22) := stM fun _ _ _ _ _ _ => Hd.ar3 fun _ _ _ => rfl
def R24 : Rws := ("need_way", d_need_way, top 22) :: R23
theorem st_direction_of : St R24 "direction_of" d_direction_of (top 25) := stM fun _ _ _ _ _ _ => Hd.ar2 fun _ _ => rfl
def R25 : Rws := ("direction_of", d_direction_of, top 25) :: R24
theorem st_runs_of : St R25 "runs_of" d_runs_of (top 27) := stM fun _ _ _ _ _ _ => Hd.ar3 fun _ _ _ => rfl
def R26 : Rws := ("runs_of", d_runs_of, top 27) :: R25
theorem st_spot_beside : St R26 "spot_beside" d_spot_beside (top 26) := stM fun _ _ _ _ _ _ => Hd.ar2 fun _ _ => rfl
def R27 : Rws := ("spot_beside", d_spot_beside, top 26) :: R26
theorem st_after_step : St R27 "after_step" d_after_step (top 28) := stM fun _ _ _ _ _ _ => Hd.ar4 fun _ _ _ _ => rfl
def R28 : Rws := ("after_step", d_after_step, top 28) :: R27
theorem st_way_by : St R28 "way_by" d_way_by (top 29) := stM fun _ _ _ _ _ _ => Hd.ar4 fun _ _ _ _ => rfl
def R29 : Rws := ("way_by", d_way_by, top 29) :: R28
theorem st__law_tried : St R29 "_law_tried" d__law_tried (top 43) := stM fun _ _ _ _ _ _ => Hd.ar5 fun _ _ _ _ _ => rfl
def R30 : Rws := ("_law_tried", d__law_tried, top 43) :: R29
theorem st__law_name : St R30 "_law_name" d__law_name (top 40) := stM fun _ _ _ _ _ _ => Hd.ar2 fun _ _ => rfl
def R31 : Rws := ("_law_name", d__law_name, top 40) :: R30
theorem st__law_runs : St R31 "_law_runs" d__law_runs (top 41) := stM fun _ _ _ _ _ _ => Hd.ar1 fun _ => rfl
def R32 : Rws := ("_law_runs", d__law_runs, top 41) :: R31
theorem st__law_once : St R32 "_law_once" d__law_once (top 45) := stM fun _ _ _ _ _ _ => Hd.ar1 fun _ => rfl
def R33 : Rws := ("_law_once", d__law_once, top 45) :: R32
theorem st_law : St R33 "law" d_law (top 46) := stM fun _ _ _ _ _ _ => Hd.ar1 fun _ => rfl
theorem allK (P : Params) : AllK (K P) Γ R33 :=
 ⟨Hd.ent 297 296 (.str "law_cellways_k20_runs" 454), st__law_once, ⟨Hd.ent 271 270 (.str "law_cellways_k20_runs" 454), st__law_runs, ⟨Hd.ent 264 263 (.str "law_cellways_k20_runs" 454), st__law_name, ⟨Hd.ent 285 284 (.str "law_cellways_k20_runs" 454), st__law_tried, ⟨Hd.ent 198 197 (.str "cellways.turns" 385), st_way_by, ⟨Hd.ent 191 190 (.str "cellways.turns" 385), st_after_step, ⟨Hd.ent 177 176 (.str "cellways.turns" 385), st_spot_beside, ⟨Hd.ent 184 183 (.str "cellways.turns" 385), st_runs_of, ⟨Hd.ent 170 169 (.str "cellways.turns" 385), st_direction_of, ⟨Hd.ent 162 161 (.str "cellways.floors" 271), st_need_way, ⟨Hd.ent 150 149 (.str "cellways.floors" 271), st_is_way, ⟨Hd.ent 155 154 (.str "cellways.floors" 271), st_costs_along, ⟨Hd.ent 138 137 (.str "cellways.floors" 271), st_step_cost, ⟨Hd.ent 131 130 (.str "cellways.floors" 271), st_has_open_corners, ⟨Hd.ent 117 116 (.str "cellways.floors" 271), st_height_at, ⟨Hd.ent 110 109 (.str "cellways.floors" 271), st_need_open, ⟨Hd.ent 124 123 (.str "cellways.floors" 271), st_are_beside, ⟨Hd.ent 143 142 (.str "cellways.floors" 271), st_is_list_of_open_spots, ⟨Hd.ent 103 102 (.str "cellways.floors" 271), st_is_open, ⟨Hd.ent 96 95 (.str "cellways.floors" 271), st_is_on_floor, ⟨Hd.ent 89 88 (.str "cellways.floors" 271), st_is_spot, ⟨Hd.ent 82 81 (.str "cellways.floors" 271), st_is_whole, ⟨Hd.ent 257 256 (.str "law_cellways_k20_runs" 454), st__law_word, ⟨Hd.ent 292 291 (.str "law_cellways_k20_runs" 454), st__law_led, ⟨Hd.ent 250 249 (.str "law_cellways_k20_runs" 454), st__law_sum, ⟨Hd.ent 245 244 (.str "law_cellways_k20_runs" 454), st__law_steps, ⟨Hd.ent 238 237 (.str "law_cellways_k20_runs" 454), st__law_cost, ⟨Hd.ent 278 277 (.str "law_cellways_k20_runs" 454), st__law_any_spot, ⟨Hd.ent 231 230 (.str "law_cellways_k20_runs" 454), st__law_spots, ⟨Hd.ent 226 225 (.str "law_cellways_k20_runs" 454), st__law_walker, ⟨Hd.ent 219 218 (.str "law_cellways_k20_runs" 454), st__law_floor, ⟨Hd.ent 212 211 (.str "law_cellways_k20_runs" 454), st__law_pick, ⟨Hd.ent 205 204 (.str "law_cellways_k20_runs" 454), st__law_cell, trivial⟩⟩⟩⟩⟩⟩⟩⟩⟩⟩⟩⟩⟩⟩⟩⟩⟩⟩⟩⟩⟩⟩⟩⟩⟩⟩⟩⟩⟩⟩⟩⟩⟩
structure ClsA (K : PySem.W.Frag) (d : Str) (D : Addr) : Prop where
 e : PySem.W.nsIn K mainGlobals d = some (some (.ref D))
 xc : XCls K D
 vt : PySem.W.kitOne K (.ref D) (.type "ValueError") = some true
 ex : PySem.W.excIn K D excBm "ValueError.__new__" = true
theorem clsA {K : PySem.W.Frag} {d : Str} {D : Addr} (e : PySem.W.nsIn K mainGlobals d = some (some (.ref D)) := by kernel_rfl) (i : PySem.W.isClsIn K D = true := by kernel_rfl) (v : PySem.W.subIn K (.ref D) (.type "ValueError") = some true := by kernel_rfl) (ga : PySem.W.findIn K (.ref D) "__getattribute__" = some (some (.builtin "BaseException.__getattribute__")) := by kernel_rfl) (hk : PySem.W.findIn K (.ref D) "__getattr__" = some none := by kernel_rfl)
 (cl : PySem.W.findIn K (.ref D) "__class__" = some (some (.builtin "object.__class__")) := by kernel_rfl) (mo : PySem.W.mroIn K D (.type "object") = some true := by kernel_rfl) (mb : PySem.W.mroIn K D (.type "BaseException") = some true := by kernel_rfl) (ex : PySem.W.excIn K D excBm "ValueError.__new__" = true := by kernel_rfl) : ClsA K d D :=
 ⟨e, ⟨ga, hk, cl, mo, mb, i⟩, kit_type (by decide +kernel) v, ex⟩
theorem modK (P : Params) {mg : Str → Option Value} {h : Heap} (X : (K P).In h) (G : h.Ns mainGlobals mg) : ModK (K P) mg Γ ⟨K P, mg, ["NoSpot", "NoWay"]⟩ := by
 have mgo : ∀ {x : Str} {u : Value}, PySem.W.nsIn (K P) mainGlobals x = some (some u) → mg x = some u := fun a => PySem.W.mg_of X G a
 have mgn : ∀ {x : Str}, PySem.W.nsIn (K P) mainGlobals x = some none → mg x = none := fun a => PySem.W.mg_none_of X G a
 have c_NoSpot : ClsA (K P) "NoSpot" 37 := clsA
 have c_NoWay : ClsA (K P) "NoWay" 49 := clsA
 have a_FloorError : PySem.W.nsIn (K P) mainGlobals "FloorError" = some (some (.ref 24)) := by kernel_rfl
 have a_NoSign : PySem.W.nsIn (K P) mainGlobals "NoSign" = some (some (.ref 61)) := by kernel_rfl
 have a_NoSize : PySem.W.nsIn (K P) mainGlobals "NoSize" = some (some (.ref 73)) := by kernel_rfl
 refine ⟨rfl, rfl, fun q hq => ?_, fun g hg => ?_, by decide +kernel, fun c hc => ?_, fun d hd D hD => ?_, fun c hc => ?_, fun c hc => ?_, fun _ c D hc hD T hT => ?_⟩
 ·simp only [Γ, List.mem_cons, List.not_mem_nil, or_false] at hq
  rcases hq with rfl | rfl | rfl | rfl
  ·exact ⟨.str "#" 273, .str "#", mgo (by kernel_rfl), ⟨_, rfl⟩, fun G => .s⟩
  ·exact ⟨.int 2 275, .int 2, mgo (by kernel_rfl), ⟨_, rfl⟩, fun G => .i⟩
  ·exact ⟨.int 3 277, .int 3, mgo (by kernel_rfl), ⟨_, rfl⟩, fun G => .i⟩
  ·exact ⟨.ref 163, .ref 163, mgo (by kernel_rfl), rfl, fun G => .t (vs := [.str "n", .str "s", .str "w", .str "e", .str "ne", .str "nw", .str "se", .str "sw"]) (.inr ⟨_, _, _, (show (K P).lookup 163 = some ⟨.type "tuple", none, .seq #[.str "n" 387, .str "s" 388, .str "w" 389, .str "e" 390, .str "ne" 391, .str "nw" 392, .str "se" 393, .str "sw" 394], #[]⟩ by kernel_rfl), rfl, rfl, (show 8 ≤ sizeLine by decide), (.cons ⟨_, rfl⟩ (.cons ⟨_, rfl⟩ (.cons ⟨_, rfl⟩ (.cons ⟨_, rfl⟩ (.cons ⟨_, rfl⟩ (.cons ⟨_, rfl⟩ (.cons ⟨_, rfl⟩ (.cons ⟨_, rfl⟩ .nil))))))))⟩) (.cons .s (.cons .s (.cons .s (.cons .s (.cons .s (.cons .s (.cons .s (.cons .s .nil))))))))⟩
 ·simp only [Γ, List.mem_cons, List.not_mem_nil, or_false] at hg
  rcases hg with rfl | rfl | rfl | rfl | rfl | rfl | rfl | rfl | rfl | rfl | rfl | rfl | rfl | rfl
  ·exact mgn (by kernel_rfl)
  ·exact mgn (by kernel_rfl)
  ·exact mgn (by kernel_rfl)
  ·exact mgn (by kernel_rfl)
  ·exact mgn (by kernel_rfl)
  ·exact mgn (by kernel_rfl)
  ·exact mgn (by kernel_rfl)
  ·exact mgn (by kernel_rfl)
  ·exact mgn (by kernel_rfl)
  ·exact mgn (by kernel_rfl)
  ·exact mgn (by kernel_rfl)
  ·exact mgn (by kernel_rfl)
  ·exact mgn (by kernel_rfl)
  ·exact mgn (by kernel_rfl)
 ·simp only [Γ, List.mem_cons, List.not_mem_nil, or_false] at hc
  rcases hc with rfl | rfl | rfl | rfl | rfl
  ·exact ⟨_, mgo a_FloorError⟩
  ·exact ⟨_, mgo a_NoSign⟩
  ·exact ⟨_, mgo a_NoSize⟩
  ·exact ⟨_, mgo c_NoSpot.e⟩
  ·exact ⟨_, mgo c_NoWay.e⟩
 ·simp only [List.mem_cons, List.not_mem_nil, or_false] at hd
  rcases hd with rfl | rfl
  ·cases (mgo c_NoSpot.e).symm.trans hD
   refine ⟨c_NoSpot.xc, fun c hc C hC => ?_, c_NoSpot.vt⟩
   simp only [Γ, List.mem_cons, List.not_mem_nil, or_false] at hc
   rcases hc with rfl | rfl | rfl | rfl | rfl
   ·cases (mgo a_FloorError).symm.trans hC; exact kit_refs (by kernel_rfl) (by kernel_rfl) (by kernel_rfl) (.inl rfl)
   ·cases (mgo a_NoSign).symm.trans hC; exact kit_refs (by kernel_rfl) (by kernel_rfl) (by kernel_rfl) (.inr (by decide))
   ·cases (mgo a_NoSize).symm.trans hC; exact kit_refs (by kernel_rfl) (by kernel_rfl) (by kernel_rfl) (.inr (by decide))
   ·cases (mgo c_NoSpot.e).symm.trans hC; exact kit_refs (by kernel_rfl) (by kernel_rfl) (by kernel_rfl) (.inl rfl)
   ·cases (mgo c_NoWay.e).symm.trans hC; exact kit_refs (by kernel_rfl) (by kernel_rfl) (by kernel_rfl) (.inr (by decide))
  ·cases (mgo c_NoWay.e).symm.trans hD
   refine ⟨c_NoWay.xc, fun c hc C hC => ?_, c_NoWay.vt⟩
   simp only [Γ, List.mem_cons, List.not_mem_nil, or_false] at hc
   rcases hc with rfl | rfl | rfl | rfl | rfl
   ·cases (mgo a_FloorError).symm.trans hC; exact kit_refs (by kernel_rfl) (by kernel_rfl) (by kernel_rfl) (.inl rfl)
   ·cases (mgo a_NoSign).symm.trans hC; exact kit_refs (by kernel_rfl) (by kernel_rfl) (by kernel_rfl) (.inr (by decide))
   ·cases (mgo a_NoSize).symm.trans hC; exact kit_refs (by kernel_rfl) (by kernel_rfl) (by kernel_rfl) (.inr (by decide))
   ·cases (mgo c_NoSpot.e).symm.trans hC; exact kit_refs (by kernel_rfl) (by kernel_rfl) (by kernel_rfl) (.inr (by decide))
   ·cases (mgo c_NoWay.e).symm.trans hC; exact kit_refs (by kernel_rfl) (by kernel_rfl) (by kernel_rfl) (.inl rfl)
 ·simp only [Γ, List.contains_iff_mem, List.mem_cons, List.not_mem_nil, or_false] at hc ⊢
  exact hc
 ·simp only [Γ, List.contains_iff_mem, List.mem_cons, List.not_mem_nil, or_false] at hc
  rcases hc with rfl | rfl
  ·exact ⟨_, mgo c_NoSpot.e, c_NoSpot.ex⟩
  ·exact ⟨_, mgo c_NoWay.e, c_NoWay.ex⟩
 ·simp only [List.mem_cons, List.not_mem_nil, or_false] at hc
  cases (mgo a_FloorError).symm.trans hT
  rcases hc with rfl | rfl
  ·cases (mgo c_NoSpot.e).symm.trans hD; exact exm_refs (by kernel_rfl) (by kernel_rfl) (by kernel_rfl) (by kernel_rfl)
  ·cases (mgo c_NoWay.e).symm.trans hD; exact exm_refs (by kernel_rfl) (by kernel_rfl) (by kernel_rfl) (by kernel_rfl)
def keep : List Nat := [1, 2, 3, 4, 5, 7, 8, 9, 10, 11, 12, 13, 14, 15, 16, 17, 18, 19, 20, 21, 22, 24, 25, 26, 27, 28, 29, 31, 32, 33, 34, 35, 36, 37, 38, 39, 40, 41, 42, 43, 44, 45, 46]
theorem ka : ∀ P, as = (K P).map (·.1) := fun _ => by kernel_rfl
theorem left : PySem.W.LeftO lw.row.prog (PySem.W.view lw.row.prog keep) [] (fun s => PySem.W.xlAt (PySem.W.view lw.row.prog keep) [] s && PySem.W.recOk lw.row.toRowW.records s) (PySem.W.kHook K as ka).obs (PySem.W.kHook K as ka).val 4482 := by
 refine Hd.left_of (T₀ := fun P => Hd.treeOf (PySem.W.boot_heap P).objs.toList) (m₀ := 11) (life := {}) (ann := some (.ref 6)) (M := 4432) (by kernel_rfl) (by kernel_rfl) (fun s => by kernel_rfl) Hd.boot0 Hd.boot1 (by kernel_rfl) fun w os => ?_
 rw [PySem.W.Fast.te10156331382660048174, PySem.W.Fast.te11892475500146522536, PySem.W.Fast.te14364793385576792824, PySem.W.Fast.te6613529449190102663, PySem.W.Fast.te4187177175401517315, PySem.W.Fast.te5923862056798008813]
 kernel_rfl
end K20
open PySem PySem.W PyProof.Rows
set_option maxRecDepth 100000 in
set_option maxHeartbeats 0 in
theorem PySem.Challenge.cw_cellways_k20_runs_holds : PySem.Challenge.rw_cellways_k20_runs.Holds := by
 refine Hd.holds (d := ⟨"law", L2.defArgs (K20.top 46), L2.defBody (K20.top 46), L2.defScope (K20.top 46), Hd.dpos (K20.top 46)⟩) (by kernel_rfl) K20.ka K20.left (by kernel_rfl) (by kernel_rfl) (by kernel_rfl) (by kernel_rfl) ⟨rfl, rfl, rfl, rfl, rfl, by decide +kernel⟩ ?hw ?hc
 case hw => w_witness2
 case hc => exact Ci.walk (l := PySem.Challenge.rw_cellways_k20_runs) K20.R33 K20.Γ "_law_script" K20.d_law ["NoSpot", "NoWay"] (K20.top 46) rfl rfl rfl rfl ⟨rfl, by decide, by decide⟩ (fun w h Y => PySem.W.kIn_of Y) (fun w mg h KX G => K20.modK _ KX G) (fun w => Hd.ent 302 301 (.str "law_cellways_k20_runs" 454)) K20.st_law (fun w => K20.allK _) K20.hlawT
#print axioms PySem.Challenge.cw_cellways_k20_runs_holds
