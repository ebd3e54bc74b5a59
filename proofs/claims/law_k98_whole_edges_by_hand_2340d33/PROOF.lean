import PyProof.Rows.All
import Wide.All
import OpenK.AllK
import Wide.FinOn
import Lean
import PyProof.EqAt
import PyProof.EqKinds
import PyProof.TupleCall
import PySem.Challenge.RW_cellways_k98_whole_edges_by_hand
set_option Elab.async false
set_option linter.all false
set_option genSizeOf false
set_option maxRecDepth 100000
theorem zzf:¬false=true:=Bool.false_ne_true
namespace L2
open PySem PySem.Spec PyProof.Rows
abbrev Key:=Sum Int Str
def lY:Key→Value→Bool
 |.inl k,v=>Value.isInt k v
 |.inr x,v=>Value.isStrOf x v
def Iq(w:World):Key→Int
 |.inl k=>hashInt k
 |.inr x=>hashStr w x
theorem bK:∀{k:Key} {v:Value},lY k v=true→(∃i t,k=Sum.inl i∧v=Value.int i t)∨(∃x t,k=Sum.inr x∧v=Value.str x t)
 |.inl i,v,h=>by
  obtain⟨t,e⟩:=Value.isInt_shape (k:=i) (v:=v) h
  exact .inl ⟨i,t,rfl,e⟩
 |.inr x,v,h=>by
  obtain⟨t,e⟩:=Value.isStrOf_shape (x:=x) (v:=v) h
  exact .inr ⟨x,t,rfl,e⟩
theorem ub(i:Int)(t:Tok):lY (.inl i) (.int i t)=true:=by simp [lY,Value.isInt]
theorem uE(x:Str)(t:Tok):lY (.inr x) (.str x t)=true:=by simp [lY,Value.isStrOf]
theorem Cs(a b:Int):decide ((Sum.inl a:Key)=Sum.inl b)=(a==b):=by
 by_cases e:a=b
 ·subst e;simp
 ·have h:¬(Sum.inl a:Key)=Sum.inl b:=fun q=>e (Sum.inl.inj q)
  rw [decide_eq_false h];exact(beq_eq_false_iff_ne.mpr e).symm
theorem DU(a b:Str):decide ((Sum.inr a:Key)=Sum.inr b)=decide (a=b):=by
 by_cases e:a=b
 ·subst e;simp
 ·have h:¬(Sum.inr a:Key)=Sum.inr b:=fun q=>e (Sum.inr.inj q)
  rw [decide_eq_false h,decide_eq_false e]
theorem BN(a:Int)(b:Str):decide ((Sum.inl a:Key)=Sum.inr b)=false:=decide_eq_false (fun q=>nomatch q)
theorem Cr(a:Str)(b:Int):decide ((Sum.inr a:Key)=Sum.inl b)=false:=decide_eq_false (fun q=>nomatch q)
noncomputable def bE(prog:Program)(w:World):PySem.KeyKind prog w Key where
 is:=lY
 hash:=Iq w
 inj:=fun v a b ha hb=>by
  rcases bK ha with⟨i,t,rfl,rfl⟩|⟨x,t,rfl,rfl⟩
  ·rcases bK hb with⟨j,u,rfl,e⟩|⟨y,u,rfl,e⟩
   ·injection e with e1 _;rw [e1]
   ·exact nomatch e
  ·rcases bK hb with⟨j,u,rfl,e⟩|⟨y,u,rfl,e⟩
   ·exact nomatch e
   ·injection e with e1 _;rw [e1]
 byValue:=fun k v h=>by
  rcases bK h with⟨i,t,rfl,rfl⟩|⟨x,t,rfl,rfl⟩<;>rfl
 pyHash:=fun hv h=>by
  rcases bK hv with⟨i,t,rfl,rfl⟩|⟨x,t,rfl,rfl⟩
  ·exact wpAny_pyHash_int h
  ·exact wpAny_pyHash_str h
 eqBool:=fun hu hv h=>by
  rcases bK hu with⟨i,t,rfl,rfl⟩|⟨x,t,rfl,rfl⟩
  ·rcases bK hv with⟨j,u,rfl,rfl⟩|⟨y,u,rfl,rfl⟩
   ·rw [Cs] at h;exact wpAny_eqBool_int h
   ·rw [BN] at h;exact SeqAt.EqAt.int_str i t y u _ _ _ _ h
  ·rcases bK hv with⟨j,u,rfl,rfl⟩|⟨y,u,rfl,rfl⟩
   ·rw [Cr] at h;exact SeqAt.EqAt.str_int x t j u _ _ _ _ h
   ·rw [DU] at h;exact wpAny_eqBool_str h
 «strs»:=fun k x t v h=>by
  rcases bK h with⟨i,u,rfl,e⟩|⟨y,u,rfl,e⟩
  ·exact nomatch e
  ·injection e with e1 _
   subst e1;cases v<;>rfl
theorem pJ(prog:Program)(w:World)(i:Int)(t:Tok):(bE prog w).is (.inl i) (.int i t)=true:=ub i t
theorem pH(prog:Program)(w:World)(x:Str)(t:Tok):(bE prog w).is (.inr x) (.str x t)=true:=uE x t
end L2
namespace L2
open PySem PySem.Spec PyProof.Rows
inductive V where
 |non|bl (b:Bool)|int (i:Int)|str (x:Str)|byt (b:Array UInt8)|flt (b:UInt64)|ref (a:Addr)|ty (n:String)
 deriving DecidableEq
def RelV:V→Value→Prop
 |.non,u=>u=Value.none
 |.bl b,u=>u=Value.bool b
 |.int i,u=>∃t,u=Value.int i t
 |.str x,u=>∃t,u=Value.str x t
 |.byt b,u=>∃t,u=Value.bytes b t
 |.flt b,u=>∃t,u=Value.float b t
 |.ref a,u=>u=Value.ref a
 |.ty n,u=>u=Value.type n
abbrev Vals:List V→List Value→Prop:=Paired RelV
theorem Vals.length{xs:List V}{us:List Value}(r:Vals xs us):xs.length=us.length:=Paired.length r
theorem Vals.get:∀{xs:List V} {us:List Value} {i:Nat} {x:V},Vals xs us→xs[i]?=some x→∃u,us[i]?=some u∧RelV x u
 |_,_,_,_,.nil,e=>by simp at e
 |_,_,0,_,.cons r _,e=>by simp at e;subst e;exact⟨_,rfl,r⟩
 |_,_,i+1,x,.cons _ t,e=>by
  obtain⟨u,h1,h2⟩:=Vals.get (i:=i) (x:=x) t (by simpa using e)
  exact⟨u,by simpa using h1,h2⟩
theorem Vals.append:∀{xs ys:List V} {us ws:List Value},Vals xs us→Vals ys ws→Vals (xs++ys) (us++ws)
 |_,_,_,_,.nil,s=>s
 |_,_,_,_,.cons r t,s=>.cons r (Vals.append t s)
theorem Vals.take:∀{xs:List V} {us:List Value} (n:Nat),Vals xs us→Vals (xs.take n) (us.take n)
 |_,_,0,_=>.nil
 |_,_,_+1,.nil=>.nil
 |_,_,n+1,.cons r t=>.cons r (Vals.take n t)
theorem Vals.drop:∀{xs:List V} {us:List Value} (n:Nat),Vals xs us→Vals (xs.drop n) (us.drop n)
 |_,_,0,r=>r
 |_,_,_+1,.nil=>.nil
 |_,_,n+1,.cons _ t=>Vals.drop n t
def i9:Option V→Option Value→Prop
 |some v,some u=>RelV v u
 |none,none=>True
 |_,_=>False
def KV{κ:Type}:List (κ×V)→List (κ×Value)→Prop:=Paired fun(p:κ×V) (q:κ×Value)=>p.1=q.1∧RelV p.2 q.2
def kV:Key→V
 |.inl i=>.int i
 |.inr x=>.str x
inductive HO where
 |lst (xs:List V)
 |tup (xs:List V)
 |dK (au:List (Key×V))|dT (au:List (List Key×V))
 |set (S:Int→Bool) (n:Nat)
 |ins (C dx:Addr) (fs:List (Str×V))
 |own (x:Addr)
 |xd (fs:List (Str×V))
 |met (f x:Addr)
 |rng (lo hi:Int)
 |frz (o:Obj) (u:HO)
 |tbl (ps:Array Value)
 |ext (φ:Heap→Prop)
abbrev Hp:=Addr→Option HO
def upd(H:Hp)(a:Addr)(o:HO):Hp:=fun b=>if b=a then some o else H b
theorem ag{H:Hp}{a:Addr}{o:HO}:upd H a o a=some o:=by unfold upd;rw [if_pos rfl]
theorem aa{H:Hp}{a b:Addr}{o:HO}(h:b≠a):upd H a o b=H b:=by unfold upd;rw [if_neg h]
theorem ei{H:Hp}{a b:Addr}{o u:HO}(h:H a=some o)(h':H b=some u)(d:o≠u):a≠b:=by
 intro e;subst e;rw [h] at h';exact d (Option.some.inj h')
theorem cV{H:Hp}{a b:Addr}{o:HO}(h:H a=some o)(h':H b=none):a≠b:=by
 intro e;subst e;rw [h] at h';cases h'
section
variable(P:Program)(w:World)
def bM(H:Hp)(h:Heap)(a:Addr):HO→Prop
 |.lst xs=>xs.length≤sizeLine∧∃(aq:List Value) (n:Nat),Vals xs aq∧h.get? a=some {cls:=.type "list",data:=.seq aq.toArray n}
 |.tup xs=>xs.length≤sizeLine∧∃aq:List Value,Vals xs aq∧IsTup h a aq.toArray
 |.dK au=>au.length≤sizeLine∧(a==sysModules)=false∧∃vs,KV au vs∧h.DictOf (bE P w) a vs
 |.dT au=>au.length≤sizeLine∧(a==sysModules)=false∧∃xs:List (List Key×Addr×Value),
  Paired (fun(p:List Key×V) (q:List Key×Addr×Value)=>p.1=q.1∧H q.2.1=some (.tup (p.1.map kV))∧RelV p.2 q.2.2) au xs∧
  ∃o es ep,h.get? a=some o∧o.ExactDict∧o.data=.dict es ep∧es.toList=xs.map (entryOfKey (tupleKind (bE P w)))∧(xs.map (·.1)).Nodup
 |.set S n=>h.SetOf (intKind P w) a S n
 |.ins C dx fs=>H dx=some (.own a)∧fs.length≤1000∧dx≠a∧h.get? a=some (PySem.W.instObj C dx)∧
  ∃mA,h.Ns1 dx mA∧(∀f,i9 (fs.lookup f) (mA f))∧PySem.Within mA (fs.map (·.1))
 |.own _=>∃o,h.get? a=some o
 |.xd fs=>∃mA,h.Ns1 a mA∧∀f,i9 (fs.lookup f) (mA f)
 |.rng lo hi=>∃t u v,h.get? a=some {cls:=.type "range",data:=.fields #[.int lo t,.int hi u,.int 1 v]}
 |.frz o u=>h.get? a=some o∧bM H h a u
 |.tbl ps=>h.get? a=some {cls:=.none,data:=.fields ps}
 |.met f x=>h.get? a=some (PySem.W.methodObj (.ref f) (.ref x))
 |.ext φ=>φ h∧(∃o,h.get? a=some o)∧∀h1 h2:Heap,φ h1→(∀o,h1.get? a=some o→h2.get? a=some o)→φ h2
def dN(H:Hp)(h:Heap):Prop:=∀a o,H a=some o→bM P w H h a o
end
section
variable{P:Program}{w:World}{H H':Hp}{h h':Heap}{a:Addr}{o:HO}
theorem bM.lt(x:bM P w H h a o):a<h.objs.size:=by
 cases o with
 |lst xs=>obtain⟨_,_,_,_,e⟩:=x;exact Heap.lt_size e
 |tup xs=>obtain⟨_,_,_,p⟩:=x;exact p.lt
 |dK au=>obtain⟨_,_,_,_,o,_,_,e,_⟩:=x;exact Heap.lt_size e
 |dT au=>obtain⟨_,_,_,_,o,_,_,e,_⟩:=x;exact Heap.lt_size e
 |set S n=>obtain⟨o,_,_,_,e,_⟩:=x;exact Heap.lt_size e
 |ins C dx fs=>obtain⟨_,_,_,e,_⟩:=x;exact Heap.lt_size e
 |own y=>obtain⟨_,e⟩:=x;exact Heap.lt_size e
 |xd fs=>obtain⟨_,⟨_,_,_,e,_⟩,_⟩:=x;exact Heap.lt_size e
 |rng lo hi=>obtain⟨_,_,_,e⟩:=x;exact Heap.lt_size e
 |frz ob u=>obtain⟨e,_⟩:=x;exact Heap.lt_size e
 |tbl ps=>exact Heap.lt_size (show h.get? a=some _ from x)
 |met f y=>exact Heap.lt_size (show h.get? a=some _ from x)
 |ext φ=>obtain⟨_,⟨_,e⟩,_⟩:=x;exact Heap.lt_size e
theorem Paired.mapP{α β:Type}{F G:α→β→Prop}:∀{l₁:List α} {l₂:List β},Paired F l₁ l₂→(∀a b,F a b→G a b)→Paired G l₁ l₂
 |_,_,.nil,_=>.nil
 |_,_,.cons r t,f=>.cons (f _ _ r) (Paired.mapP t f)
theorem bM.stay(x:bM P w H h a o)(k:∀b u,(b=a∨H b=some (.own a))→h.get? b=some u→h'.get? b=some u)
 (ho:∀b,H b=some (.own a)→H' b=some (.own a)) (ht:∀b xs,H b=some (.tup xs)→H' b=some (.tup xs)):bM P w H' h' a o:=by
 induction o with
 |lst xs=>obtain⟨z,aq,n,r,e⟩:=x;exact⟨z,aq,n,r,k _ _ (.inl rfl) e⟩
 |tup xs=>obtain⟨z,aq,r,ob,e,c⟩:=x;exact⟨z,aq,r,ob,k _ _ (.inl rfl) e,c⟩
 |dK au=>obtain⟨z,y,vs,r,ob,es,ep,e,c⟩:=x;exact⟨z,y,vs,r,ob,es,ep,k _ _ (.inl rfl) e,c⟩
 |dT au=>
  obtain⟨z,y,xs,r,ob,es,ep,e,c⟩:=x
  exact⟨z,y,xs,Paired.mapP r fun p q z=>⟨z.1,ht _ _ z.2.1,z.2.2⟩,ob,es,ep,k _ _ (.inl rfl) e,c⟩
 |set S n=>obtain⟨ob,es,ep,t,e,c⟩:=x;exact⟨ob,es,ep,t,k _ _ (.inl rfl) e,c⟩
 |ins C dx fs=>
  obtain⟨d,z,ne,e,mA,⟨od,es,ep,e2,c⟩,r⟩:=x
  exact⟨ho _ d,z,ne,k _ _ (.inl rfl) e,mA,⟨od,es,ep,k _ _ (.inr d) e2,c⟩,r⟩
 |own y=>obtain⟨ob,e⟩:=x;exact⟨ob,k _ _ (.inl rfl) e⟩
 |xd fs=>obtain⟨mA,⟨od,es,ep,e,c⟩,r⟩:=x;exact⟨mA,⟨od,es,ep,k _ _ (.inl rfl) e,c⟩,r⟩
 |rng lo hi=>obtain⟨t,u,v,e⟩:=x;exact⟨t,u,v,k _ _ (.inl rfl) e⟩
 |frz ob u ih=>obtain⟨e,q⟩:=x;exact⟨k _ _ (.inl rfl) e,ih q⟩
 |tbl ps=>
  have e:h.get? a=some {cls:=.none,data:=.fields ps}:=x
  show h'.get? a=some {cls:=.none,data:=.fields ps}
  exact k a _ (.inl rfl) e
 |met f y=>
  have e:h.get? a=some (PySem.W.methodObj (.ref f) (.ref y)):=x
  show h'.get? a=some (PySem.W.methodObj (.ref f) (.ref y))
  exact k a _ (.inl rfl) e
 |ext φ=>obtain⟨p,⟨o,e⟩,st⟩:=x;exact⟨st _ _ p fun o q=>k _ _ (.inl rfl) q,⟨o,k _ _ (.inl rfl) e⟩,st⟩
theorem dN.lt(x:dN P w H h)(e:H a=some o):a<h.objs.size:=(x a o e).lt
theorem dN.fresh(x:dN P w H h)(e:h.objs.size≤a):H a=none:=by
 cases q:H a with
 |none=>rfl
 |some u=>exact absurd (Nat.lt_of_lt_of_le (x.lt q) e) (Nat.lt_irrefl _)
theorem dN.kept(x:dN P w H h)(k:∀b u,h.get? b=some u→h'.get? b=some u):dN P w H h':=fun a o e=>
 (x a o e).stay (fun b u _ q=>k b u q) (fun _ q=>q) fun _ _ q=>q
theorem dN.laid(x:dN P w H h)(k:∀b u,h.get? b=some u→h'.get? b=some u)(hp:h.objs.size≤a)(new:bM P w (upd H a o) h' a o):dN P w (upd H a o) h':=fun b u e=>by
 have hn:=x.fresh hp
 by_cases hb:b=a
 ·subst hb;rw [ag] at e;cases e;exact new
 ·rw [aa hb] at e;exact(x b u e).stay (fun c v _ q=>k c v q) (fun c q=>by rw [aa (cV q hn)];exact q) fun c xs q=>by rw [aa (cV q hn)];exact q
end
def Rd(H:Hp)(a:Addr)(u:HO):Prop:=H a=some u∨∃o,H a=some (.frz o u)
theorem Rd.ok{P:Program}{w:World}{H:Hp}{h:Heap}{a:Addr}{u:HO}(r:Rd H a u)(x:dN P w H h):bM P w H h a u:=by
 rcases r with r|⟨o,r⟩
 ·exact x a u r
 ·obtain⟨_,q⟩:=x a _ r
  exact q
def Gz:Option HO→Prop
 |some (.lst _)=>True
 |some (.dK _)=>True
 |some (.dT _)=>True
 |some (.set _ _)=>True
 |some (.ins _ _ _)=>True
 |some (.ext _)=>True
 |_=>False
section
variable{P:Program}{w:World}{H:Hp}{h h':Heap}{x e:Addr}{o':HO}
theorem dN.write(ok:dN P w H h)(mu:Gz (H x))(he:e=x∨H e=some (.own x))(k:∀b u,b≠e→h.get? b=some u→h'.get? b=some u)(Ex:∃u,h'.get? e=some u)
 (new:bM P w (upd H x o') h' x o'):dN P w (upd H x o') h':=fun b u q=>by
 have Ff:∀c y,H c=some (.own y)→c≠x:=fun c y r z=>by subst z;rw [r] at mu;exact mu
 have HN:∀c xs,H c=some (.tup xs)→c≠x:=fun c xs r z=>by subst z;rw [r] at mu;exact mu
 by_cases hb:b=x
 ·subst hb;rw [ag] at q;cases q;exact new
 ·rw [aa hb] at q
  by_cases hbe:b=e
  ·have q':H b=some (.own x):=by
    rcases he with z|z
    ·exact absurd (hbe.trans z) hb
    ·rw [hbe];exact z
   rw [q] at q';cases q';obtain⟨v,hv⟩:=Ex
   exact⟨v,by rw [hbe];exact hv⟩
  ·refine(ok b u q).stay (fun c v hc r=>k c v ?_ r) (fun c r=>by rw [aa (Ff c b r)];exact r) fun c xs r=>by rw [aa (HN c xs r)];exact r
   rcases hc with rfl|hc
   ·exact hbe
   ·rintro rfl
    rcases he with z|z
    ·exact Ff c b hc z
    ·rw [hc] at z;cases z;exact hb rfl
end
structure Un(fs ex:List Addr)(H H':Hp)(h h':Heap):Prop where
 keep:∀b o,h.get? b=some o→H b=none→b∉fs→b∉ex→h'.get? b=some o
 slot:∀b o,h.get? b=some o→H b=none→b∈fs→b∉ex→∃sl,h'.get? b=some {o with slots:=sl}
 free:∀b o,h.get? b=some o→H b=none→b∉ex→H' b=none
 there:∀b o,h.get? b=some o→b∉ex→∃o',h'.get? b=some o'
 tups:∀b xs,H b=some (.tup xs)→H' b=some (.tup xs)
 frzs:∀b o u,H b=some (.frz o u)→H' b=some (.frz o u)
 tbls:∀b ps,H b=some (.tbl ps)→∃more,H' b=some (.tbl (ps++more))
section
variable{fs Jd ex L3:List Addr}{H H1 H2:Hp}{h h1 h2 h':Heap}{a x e:Addr}{o:HO}
theorem Un.any(u:Un fs ex H H1 h h1){b:Addr}{ob:Obj}(q:h.get? b=some ob)(n:H b=none)(hx:b∉ex):∃sl,h1.get? b=some {ob with slots:=sl}:=by
 by_cases hb:b∈fs
 ·exact u.slot b ob q n hb hx
 ·exact⟨ob.slots,u.keep b ob q n hb hx⟩
theorem Un.kept(k:∀b u,h.get? b=some u→h'.get? b=some u):Un fs ex H H h h':=
 ⟨fun b ob q _ _ _=>k b ob q,fun b ob q _ _ _=>⟨ob.slots,k b ob q⟩,fun _ _ _ n _=>n,fun b ob q _=>⟨ob,k b ob q⟩,fun _ _ q=>q,fun _ _ _ q=>q,fun _ ps q=>⟨#[],by rw [q];simp⟩⟩
theorem Un.refl:Un fs ex H H h h:=Un.kept fun _ _ q=>q
theorem Un.laid(k:∀b u,h.get? b=some u→h'.get? b=some u)(hp:h.objs.size≤a)(hn:H a=none):Un fs ex H (upd H a o) h h' where
 keep:=fun b u q _ _ _=>k b u q
 slot:=fun b u q _ _ _=>⟨u.slots,k b u q⟩
 free:=fun b u q n _=>by rw [aa (Nat.ne_of_lt (Nat.lt_of_lt_of_le (Heap.lt_size q) hp))];exact n
 there:=fun b u q _=>⟨u,k b u q⟩
 tups:=fun b xs q=>by rw [aa (cV q hn)];exact q
 frzs:=fun b u xs q=>by rw [aa (cV q hn)];exact q
 tbls:=fun b ps q=>⟨#[],by rw [aa (cV q hn),q];simp⟩
theorem Un.write(mu:Gz (H x))(he:e=x∨H e=some (.own x))(k:∀b u,b≠e→h.get? b=some u→h'.get? b=some u)(Ex:∃u,h'.get? e=some u):Un fs ex H (upd H x o) h h':=by
 have hx:∀b,H b=none→b≠x:=fun b n z=>by subst z;rw [n] at mu;exact mu
 have hb:∀b,H b=none→b≠e:=fun b n z=>by
  subst z;rcases he with r|r
  ·exact hx b n r
  ·rw [n] at r;cases r
 have hm:∀b u,H b=some u→¬Gz (some u)→b≠x:=fun b u q nm z=>by subst z;rw [q] at mu;exact nm mu
 refine⟨fun b u q n _ _=>k b u (hb b n) q,fun b u q n _ _=>⟨u.slots,k b u (hb b n) q⟩,fun b u q n _=>by rw [aa (hx b n)];exact n,fun b u q _=>?_,
  fun b xs q=>by rw [aa (hm b _ q fun z=>z)];exact q,fun b u xs q=>by rw [aa (hm b _ q fun z=>z)];exact q,fun b ps q=>⟨#[],by rw [aa (hm b _ q fun z=>z),q];simp⟩⟩
 by_cases hbe:b=e
 ·subst hbe;exact Ex
 ·exact⟨u,k b u hbe q⟩
end
def HL(h:Heap)(H:Hp):List Addr:=(List.range h.objs.size).filter fun a=>(H a).isSome
def nF(h:Heap)(H:Hp):Heap:=PySem.W.hideAll h (HL h H)
theorem uY(h:Heap)(H:Hp):(nF h H).objs.size=h.objs.size:=PySem.W.hideAll_size _ _
theorem wN{h:Heap}{H:Hp}{b:Addr}{o:Obj}(e:h.get? b=some o)(n:H b=none):(nF h H).get? b=some o:=
 PySem.W.hideAll_get _ e fun hm=>by
  have q:(H b).isSome=true:=(List.mem_filter.mp hm).2
  rw [n] at q;simp at q
theorem AO{h:Heap}{H:Hp}{b:Addr}{o:Obj}(e:(nF h H).get? b=some o):h.get? b=some o∧H b=none:=by
 have e':h.get? b=some o:=PySem.W.of_hideAll (HL h H) e
 refine⟨e',?_⟩;cases q:H b with
 |none=>rfl
 |some x=>
  have hm:b∈HL h H:=List.mem_filter.mpr ⟨List.mem_range.mpr (Heap.lt_size e'),by simp [q]⟩
  have z:(nF h H).get? b=none:=PySem.W.hideAll_none (HL h H) hm
  rw [z] at e;cases e
def AF(g h:Heap)(L:Addr):List (Addr×Obj):=(List.range h.objs.size).filterMap fun a=>if a=L∨(g.get? a).isSome=true then none else(h.get? a).map fun o=>(a,o)
def rest(g h:Heap)(L d:Addr):List (Addr×Obj):=(AF g h L).filter fun p=>decide (p.1≠d)
end L2
namespace L2
open PySem PySem.Spec PyProof.Rows
structure Mod(K:PySem.W.Frag)(mg:Str→Option Value)(base:Heap):Prop where
 kin:K.In base
 glob:base.Ns mainGlobals mg
 blt:∃mb,base.Ns builtinsNs mb∧∀x:Str,x≠"__name__"→mb x=bootBuiltins x
 nolimit:base.NoLimit
structure Cx where
 prog:Program
 w:World
 K:PySem.W.Frag
 mg:Str→Option Value
 base:Heap
 A:Around
 N:List Str
 s₀:Shared
 H₀:Hp
 env:Env
 outer:List Env
 stack:List Env
 ex:List Addr
 fn:Str→Bool
 calm:Bool
 pn:List (Addr×Obj)
 xe:Value→Shared→Prop
def d0(l:List Env):List Addr:=l.filterMap (·.frame)
abbrev Cx.fs(X:Cx):List Addr:=d0 X.outer
def FV(sc:Scope)(x:Str):Prop:=sc.names.lookup x=some .local∨sc.names.lookup x=some .cell∨sc.names.lookup x=some .free
def Loc(sc:Scope)(x:Str):Prop:=sc.names.lookup x=some .local∨sc.names.lookup x=some .cell
def Look(env:Env)(h:Heap)(m:Str→Option Value)(x:Str)(u:Value):Prop:=
 (env.kindOf x=some .local∧m x=some u)∨((env.kindOf x=some .cell∨env.kindOf x=some .free)∧∃c,env.cells.lookup x=some c∧h.IsCell c (some u))
structure Cx.Ok(X:Cx):Prop where
 mod:Mod X.K X.mg X.base
 kind:X.env.scope.kind=.function
 glob:X.env.globals=mainGlobals
 blt:X.env.builtins=builtinsNs
 above:X.s₀.heap.objs.size≤X.env.locals
 inj:∀x y c,X.env.cells.lookup x=some c→X.env.cells.lookup y=some c→x=y
 has:∀x,(X.env.kindOf x=some .cell∨X.env.kindOf x=some .free)→∃c,X.env.cells.lookup x=some c
 cab:∀x c,X.fn x=true→X.env.cells.lookup x=some c→X.s₀.heap.objs.size≤c
 hd:X.calm=true→X.A.handled=none
 frames:X.A.frames=some X.stack
 stk:X.stack=X.outer∨(X.stack=X.env::X.outer∧X.env.frame=some X.env.locals)
 exf:∀b∈X.ex,b≠X.env.locals∧∀x c,X.env.cells.lookup x=some c→c≠b
 bs:∀b o,X.base.get? b=some o→X.s₀.heap.get? b=some o∧X.H₀ b=none
 bsz:X.base.objs.size≤X.s₀.heap.objs.size
 noex:∀b o,X.base.get? b=some o→b∉X.ex
 exfs:∀b∈X.ex,b∉X.fs
 funs:X.s₀.heap.FunFrames X.base X.outer
 frf:∀b∈X.fs,X.H₀ b=none
structure Inv(X:Cx)(pins:List (Addr×Obj))(σ:List (Option V))(H:Hp)(s:Shared):Prop where
 ok:X.Ok
 os:s.os=X.s₀.os
 bare:AllBare s.gens
 base:Un X.fs X.ex X.H₀ H X.s₀.heap s.heap
 loc:∃m,s.heap.Ns X.env.locals m∧∀(i:Nat) (x:Str) (v:V),X.N[i]?=some x→σ[i]?=some (some v)→FV X.env.scope x→∃u,RelV v u∧Look X.env s.heap m x u
 cell:∀x c,X.env.cells.lookup x=some c→∃v,s.heap.IsCell c v
 free:H X.env.locals=none
 freeC:∀x c,X.env.cells.lookup x=some c→H c=none
 pin:∀p∈X.pn++pins,s.heap.get? p.1=some p.2∧H p.1=none∧p.1≠X.env.locals∧p.1∉X.fs∧∀v,p.2.data≠.cell v
 hok:dN X.prog X.w H s.heap
 len:σ.length=X.N.length
section
variable{X:Cx}{pins:List (Addr×Obj)}{σ:List (Option V)}{H H':Hp}{s:Shared}{h':Heap}
theorem Cx.Ok.nofr(ok:X.Ok){b:Addr}{o:Obj}(e:X.base.get? b=some o):b∉X.fs:=fun hb=>by
 have:=(ok.funs.mem hb).1
 rw [e] at this;cases this
theorem Inv.bs(I:Inv X pins σ H s):∀b o,X.base.get? b=some o→s.heap.get? b=some o∧H b=none:=fun b o e=>
 ⟨I.base.keep b o (I.ok.bs b o e).1 (I.ok.bs b o e).2 (I.ok.nofr e) (I.ok.noex b o e),I.base.free b o (I.ok.bs b o e).1 (I.ok.bs b o e).2 (I.ok.noex b o e)⟩
theorem Inv.bk(I:Inv X pins σ H s):∀b o,X.base.get? b=some o→s.heap.get? b=some o:=fun b o e=>(I.bs b o e).1
theorem Inv.mod(I:Inv X pins σ H s):Mod X.K X.mg X.base:=I.ok.mod
theorem Inv.kIn(I:Inv X pins σ H s):X.K.In s.heap:=I.ok.mod.kin.keeps I.bk
theorem Inv.fr(I:Inv X pins σ H s):∃m,Fr X.base X.env.locals s.heap m:=
 let⟨m,hn,_⟩:=I.loc
 ⟨m,hn,I.bk,Nat.le_trans I.ok.bsz I.ok.above⟩
theorem Inv.lt(I:Inv X pins σ H s):X.env.locals<s.heap.objs.size:=let⟨_,hn,_⟩:=I.loc;hn.lt
theorem Inv.sz(I:Inv X pins σ H s):X.s₀.heap.objs.size≤s.heap.objs.size:=Nat.le_trans I.ok.above (Nat.le_of_lt I.lt)
theorem Inv.nofs(I:Inv X pins σ H s){a:Addr}(h:s.heap.objs.size≤a):a∉X.fs:=fun hb=>by
 obtain⟨_,o,ho,_⟩:=I.ok.funs.mem hb
 exact absurd (Nat.lt_of_lt_of_le (Heap.lt_size ho) (Nat.le_trans I.sz h)) (Nat.lt_irrefl _)
theorem Inv.cne(I:Inv X pins σ H s):∀x c,X.env.cells.lookup x=some c→c≠X.env.locals:=fun x c e z=>by
 obtain⟨v,o,ho,hd⟩:=I.cell x c e
 obtain⟨m,⟨o',es,ep,iA,Hg,_⟩,_⟩:=I.loc
 rw [z,iA] at ho;cases ho;rw [Hg] at hd;cases hd
theorem Inv.funs(I:Inv X pins σ H s):s.heap.FunFrames X.base X.outer:=by
 have all:∀(l:List Env),(∀b∈d0 l,b∈X.fs)→X.s₀.heap.FunFrames X.base l→s.heap.FunFrames X.base l:=by
  intro l
  induction l with
  |nil=>intro _ _;trivial
  |cons env r ih=>
   intro hs hl;obtain⟨hk,⟨L,o,hf,hn,ho,hd⟩,hr⟩:=hl
   have hL:L∈X.fs:=hs L (by unfold d0;rw [List.filterMap_cons,hf];exact List.mem_cons_self)
   obtain⟨sl,e⟩:=I.base.slot L o ho (I.ok.frf L hL) hL fun z=>I.ok.exfs L z hL
   exact⟨hk,⟨L,_,hf,hn,e,hd⟩,ih (fun b hb=>hs b (by unfold d0;rw [List.filterMap_cons,hf];exact List.mem_cons_of_mem _ hb)) hr⟩
 exact all X.outer (fun _ hb=>hb) I.ok.funs
theorem Inv.stack(I:Inv X pins σ H s):s.heap.FunFrames X.base X.stack:=by
 rcases I.ok.stk with e|⟨e,hf⟩
 ·rw [e];exact I.funs
 ·rw [e];obtain⟨m,hn,_⟩:=I.loc
  refine .cons (by rw [I.ok.kind];decide) hf hn ?_ I.funs;exact Heap.get?_none_of_le (Nat.le_trans I.ok.bsz I.ok.above)
theorem Inv.stkSub(I:Inv X pins σ H s):∀b∈d0 X.stack,b∈X.env.locals::X.fs:=fun b hb=>by
 rcases I.ok.stk with e|⟨e,hf⟩
 ·rw [e] at hb;exact List.mem_cons_of_mem _ hb
 ·rw [e] at hb;unfold d0 at hb;rw [List.filterMap_cons,hf] at hb;exact hb
theorem Inv.stkFree(I:Inv X pins σ H s):∀b∈d0 X.stack,H b=none:=fun b hb=>by
 rcases List.mem_cons.mp (I.stkSub b hb) with e|hb
 ·rw [e];exact I.free
 ·obtain⟨_,o,ho,_⟩:=I.ok.funs.mem hb
  exact I.base.free b o ho (I.ok.frf b hb) fun z=>I.ok.exfs b z hb
theorem Inv.step{g':Array GenState}{t':Nat}{d':Drawn}{ch:List Addr}(I:Inv X pins σ H s)
 (vq:∀b∈ch,(b∈X.ex∨X.s₀.heap.objs.size≤b)∧b≠X.env.locals∧(∀x c,X.env.cells.lookup x=some c→c≠b)∧∀p∈X.pn++pins,p.1≠b)
 (keep:∀b o,b≠X.env.locals→b∉X.fs→b∉ch→s.heap.get? b=some o→H b=none→h'.get? b=some o)
 (slot:∀b o,b≠X.env.locals→b∈X.fs→b∉ch→s.heap.get? b=some o→H b=none→∃sl,h'.get? b=some {o with slots:=sl}) (free:∀b o,b∉ch→s.heap.get? b=some o→H b=none→H' b=none)
 (there:∀b o,b∉ch→s.heap.get? b=some o→∃o',h'.get? b=some o')
 (tups:∀b xs,H b=some (.tup xs)→H' b=some (.tup xs)) (frzs:∀b o u,H b=some (.frz o u)→H' b=some (.frz o u)) (tbls:∀b ps,H b=some (.tbl ps)→∃more,H' b=some (.tbl (ps++more)))
 (ns:∀m,s.heap.Ns X.env.locals m→h'.Ns X.env.locals m) (hok:dN X.prog X.w H' h') (hg:AllBare g'):
 Inv X pins σ H' {s with heap:=h',gens:=g',drawn:=d',toks:=t'}:=by
 have Lg:∀b o,X.s₀.heap.get? b=some o→b≠X.env.locals:=fun b o e=>Nat.ne_of_lt (Nat.lt_of_lt_of_le (Heap.lt_size e) I.ok.above)
 have Cq:∀b o,X.s₀.heap.get? b=some o→b∉X.ex→b∉ch:=fun b o e hx hb=>by
  rcases(vq b hb).1 with z|z
  ·exact hx z
  ·exact absurd (Nat.lt_of_lt_of_le (Heap.lt_size e) z) (Nat.lt_irrefl _)
 have cellK:∀x c,X.env.cells.lookup x=some c→∀v,s.heap.IsCell c v→h'.IsCell c v:=fun x c e v ⟨o,ho,hd⟩=>by
  have FW:c∉ch:=fun z=>(vq c z).2.2.1 x c e rfl
  by_cases hc:c∈X.fs
  ·obtain⟨sl,q⟩:=slot c o (I.cne x c e) hc FW ho (I.freeC x c e)
   exact⟨_,q,hd⟩
  ·exact⟨o,keep c o (I.cne x c e) hc FW ho (I.freeC x c e),hd⟩
 refine⟨I.ok,I.os,hg,⟨fun b o e n hb hx=>?_,fun b o e n hb hx=>?_,fun b o e n hx=>?_,fun b o e hx=>?_,fun b xs e=>tups b xs (I.base.tups b xs e),fun b o xs e=>frzs b o xs (I.base.frzs b o xs e),fun b ps e=>?_⟩,?_,fun x c e=>?_,?_,fun x c e=>?_,fun p hp=>?_,hok,I.len⟩
 ·exact keep b o (Lg b o e) hb (Cq b o e hx) (I.base.keep b o e n hb hx) (I.base.free b o e n hx)
 ·obtain⟨sl,e1⟩:=I.base.slot b o e n hb hx
  obtain⟨sl',e2⟩:=slot b _ (Lg b o e) hb (Cq b o e hx) e1 (I.base.free b o e n hx)
  exact⟨sl',e2⟩
 ·obtain⟨o',e1⟩:=I.base.there b o e hx
  exact free b o' (Cq b o e hx) e1 (I.base.free b o e n hx)
 ·obtain⟨o',e1⟩:=I.base.there b o e hx
  exact there b o' (Cq b o e hx) e1
 ·obtain⟨m1,e1⟩:=I.base.tbls b ps e
  obtain⟨m2,e2⟩:=tbls b _ e1
  exact⟨m1++m2,by rw [e2,Array.append_assoc]⟩
 ·obtain⟨m,hn,hl⟩:=I.loc
  refine⟨m,ns m hn,fun i x v e1 e2 e3=>?_⟩
  obtain⟨u,r,l⟩:=hl i x v e1 e2 e3
  refine⟨u,r,?_⟩;rcases l with l|⟨k,c,e,z⟩
  ·exact .inl l
  ·exact .inr ⟨k,c,e,cellK x c e _ z⟩
 ·obtain⟨v,z⟩:=I.cell x c e
  exact⟨v,cellK x c e v z⟩
 ·obtain⟨m,⟨o,_,_,ho,_⟩,_⟩:=I.loc
  exact free _ o (fun z=>(vq _ z).2.1 rfl) ho I.free
 ·obtain⟨v,o,ho,hd⟩:=I.cell x c e
  exact free c o (fun z=>(vq c z).2.2.1 x c e rfl) ho (I.freeC x c e)
 ·obtain⟨e,n,ne,nf,d⟩:=I.pin p hp
  have FW:p.1∉ch:=fun z=>(vq p.1 z).2.2.2 p hp rfl
  exact⟨keep p.1 p.2 ne nf FW e n,free p.1 p.2 FW e n,ne,nf,d⟩
theorem Inv.un{t':Nat}(I:Inv X pins σ H s)(u:Un X.fs [] H H' s.heap h')(hok:dN X.prog X.w H' h'):Inv X pins σ H' {s with heap:=h',toks:=t'}:=by
 obtain⟨m,⟨o,es,ep,ho,r⟩,_⟩:=id I.loc
 obtain⟨sl,hL⟩:=u.any ho I.free (by simp)
 exact I.step (g':=s.gens) (d':=s.drawn) (ch:=[]) (fun _ z=>nomatch z) (fun b o _ hb _ e n=>u.keep b o e n hb (by simp)) (fun b o _ hb _ e n=>u.slot b o e n hb (by simp)) (fun b o _ e n=>u.free b o e n (by simp)) (fun b o _ e=>u.there b o e (by simp)) u.tups u.frzs u.tbls (fun m' hm=>by
  obtain⟨o',es',ep',iA,r'⟩:=hm
  rw [ho] at iA;cases iA;exact⟨_,es',ep',hL,r'⟩) hok I.bare
theorem Inv.call{g':Array GenState}{t':Nat}{d':Drawn}{ch:List Addr}(I:Inv X pins σ H s)(u:Un (d0 X.stack) ch H H' s.heap h')(hok:dN X.prog X.w H' h')(hg:AllBare g')
 (vq:∀b∈ch,(b∈X.ex∨X.s₀.heap.objs.size≤b)∧b≠X.env.locals∧(∀x c,X.env.cells.lookup x=some c→c≠b)∧∀p∈X.pn++pins,p.1≠b):
 Inv X pins σ H' {s with heap:=h',gens:=g',drawn:=d',toks:=t'}:=by
 obtain⟨m,⟨o,es,ep,ho,r⟩,_⟩:=id I.loc
 obtain⟨sl,hL⟩:=u.any ho I.free fun z=>(vq _ z).2.1 rfl
 exact I.step (ch:=ch) vq (fun b o hL hb hc e n=>u.keep b o e n (fun z=>(List.mem_cons.mp (I.stkSub b z)).elim hL hb) hc) (fun b o _ _ hc e n=>u.any e n hc) (fun b o hc e n=>u.free b o e n hc) (fun b o hc e=>u.there b o e hc) u.tups u.frzs u.tbls (fun m' hm=>by
  obtain⟨o',es',ep',iA,r'⟩:=hm
  rw [ho] at iA;cases iA;exact⟨_,es',ep',hL,r'⟩) hok hg
theorem Inv.turned{t':Nat}{it:Addr}(I:Inv X pins σ H s)(k:∀b o,b≠it→s.heap.get? b=some o→h'.get? b=some o)(hn:H it=none)(hL:it≠X.env.locals)
 (h1:it∈X.ex∨X.s₀.heap.objs.size≤it) (h2:∀x c,X.env.cells.lookup x=some c→c≠it) (h3:∀p∈X.pn++pins,p.1≠it):Inv X pins σ H {s with heap:=h',toks:=t'}:=by
 have LP:∀b u,H b=some u→b≠it:=fun b u e z=>by rw [z,hn] at e;cases e
 refine I.step (g':=s.gens) (d':=s.drawn) (ch:=[it]) (fun b hb=>?_) (fun b o _ _ hc e _=>k b o (fun z=>hc (by simp [z])) e) (fun b o _ _ hc e _=>⟨o.slots,k b o (fun z=>hc (by simp [z])) e⟩) (fun _ _ _ _ n=>n)
  (fun b o hc e=>⟨o,k b o (fun z=>hc (by simp [z])) e⟩) (fun _ _ e=>e) (fun _ _ _ e=>e) (fun b ps e=>⟨#[],by rw [e];simp⟩) (fun m hm=>?_) (fun b u e=>?_) I.bare
 ·have e:b=it:=by simpa using hb
  subst e;exact⟨h1,hL,h2,h3⟩
 ·obtain⟨o,es,ep,ho,r⟩:=hm
  exact⟨o,es,ep,k _ o (Ne.symm hL) ho,r⟩
 ·refine(I.hok b u e).stay (fun c v hc q=>k c v ?_ q) (fun _ q=>q) fun _ _ q=>q
  rcases hc with z|z
  ·rw [z];exact LP b u e
  ·exact LP c _ z
theorem Inv.tok(I:Inv X pins σ H s)(t:Nat):Inv X pins σ H {s with toks:=t}:=I.un (h':=s.heap) (t':=t) Un.refl I.hok
theorem Inv.kept{t':Nat}(I:Inv X pins σ H s)(k:∀b u,s.heap.get? b=some u→h'.get? b=some u):Inv X pins σ H {s with heap:=h',toks:=t'}:=I.un (Un.kept k) (I.hok.kept k)
theorem Inv.laid{a:Addr}{o:HO}{t':Nat}(I:Inv X pins σ H s)(k:∀b u,s.heap.get? b=some u→h'.get? b=some u)(hp:s.heap.objs.size≤a)(new:bM X.prog X.w (upd H a o) h' a o):
 Inv X pins σ (upd H a o) {s with heap:=h',toks:=t'}:=I.un (Un.laid k hp (I.hok.fresh hp)) (I.hok.laid k hp new)
theorem Inv.write{x e:Addr}{o:HO}{t':Nat}(I:Inv X pins σ H s)(mu:Gz (H x))(he:e=x∨H e=some (.own x))(k:∀b u,b≠e→s.heap.get? b=some u→h'.get? b=some u)(Ex:∃u,h'.get? e=some u)
 (new:bM X.prog X.w (upd H x o) h' x o):Inv X pins σ (upd H x o) {s with heap:=h',toks:=t'}:=I.un (Un.write mu he k Ex) (I.hok.write mu he k Ex new)
theorem Inv.pins_of{sk:List (Addr×Obj)}(I:Inv X pins σ H s)(h:∀p∈sk,s.heap.get? p.1=some p.2∧H p.1=none∧p.1≠X.env.locals∧p.1∉X.fs∧∀v,p.2.data≠.cell v):Inv X sk σ H s:=
 ⟨I.ok,I.os,I.bare,I.base,I.loc,I.cell,I.free,I.freeC,fun p hp=>(List.mem_append.mp hp).elim (fun z=>I.pin p (List.mem_append_left _ z)) (h p),I.hok,I.len⟩
theorem jx{N:List Str}(hN:N.Nodup){i j:Nat}{x:Str}(a:N[i]?=some x)(b:N[j]?=some x):i=j:=by
 obtain⟨h1,e1⟩:=List.getElem?_eq_some_iff.mp a
 obtain⟨h2,e2⟩:=List.getElem?_eq_some_iff.mp b
 exact(List.getElem_inj hN).mp (e1.trans e2.symm)
theorem iC{M:Model}{A:Around}{E:Value→Shared→Prop}{i:Nat}{x:Str}{v:V}{u:Value}{Q:Unit→Shared→Prop}(I:Inv X pins σ H s)(hN:X.N.Nodup)(hi:X.N[i]?=some x)(hx:Loc X.env.scope x)(r:RelV v u)
 (h:∀s',Inv X pins (σ.set i (some v)) H s'→(∃a,Heap.SameBut a s.heap s'.heap∧(a=X.env.locals∨X.env.cells.lookup x=some a))→Q () s') (hf:X.fn x=true∨X.env.scope.names.lookup x=some .local:=by first|exact .inl rfl|exact .inr rfl|assumption):wpAny M A (storeName X.env x u) Q E s:=by
 obtain⟨m,hn,hl⟩:=id I.loc
 have IU:(X.env.scope.kind==.class||(X.env.scope.kind==.module&&X.env.locals !=X.env.globals))=false:=by rw [I.ok.kind];rfl
 have hiσ:i<σ.length:=by rw [I.len];exact(List.getElem?_eq_some_iff.mp hi).1
 have cne:=I.cne
 have tracked:∀{a:Addr} {h':Heap},(∃o,s.heap.get? a=some o∧H a=none)→Heap.SameBut a s.heap h'→dN X.prog X.w H h':=fun{a h'} ha hs b ob e=>by
  obtain⟨_,_,hfree⟩:=ha
  refine(I.hok b ob e).stay (fun c w' hc q=>(hs.2 c ?_).trans q) (fun _ q=>q) fun _ _ q=>q
  rintro rfl
  rcases hc with rfl|hc
  ·rw [hfree] at e;cases e
  ·rw [hfree] at hc;cases hc
 rcases hx with hk|hk
 ·refine wpAny_storeName_local hk hn (fun h' NN hs=>?_) IU;obtain⟨oL,_,_,HE,_⟩:=id hn
  refine h _ ⟨I.ok,I.os,I.bare,⟨fun b o e n hb hx=>?_,fun b o e n hb hx=>?_,I.base.free,fun b o e hx=>?_,I.base.tups,I.base.frzs,I.base.tbls⟩,⟨_,NN,fun j y v' e1 e2 e3=>?_⟩,fun y c e=>?_,I.free,I.freeC,fun p hp=>?_,tracked ⟨oL,HE,I.free⟩ hs,by simpa using I.len⟩ ⟨_,hs,.inl rfl⟩
  ·exact(hs.2 b (Nat.ne_of_lt (Nat.lt_of_lt_of_le (Heap.lt_size e) I.ok.above))).trans (I.base.keep b o e n hb hx)
  ·obtain⟨sl,e1⟩:=I.base.slot b o e n hb hx
   exact⟨sl,(hs.2 b (Nat.ne_of_lt (Nat.lt_of_lt_of_le (Heap.lt_size e) I.ok.above))).trans e1⟩
  ·obtain⟨o',e1⟩:=I.base.there b o e hx
   exact⟨o',(hs.2 b (Nat.ne_of_lt (Nat.lt_of_lt_of_le (Heap.lt_size e) I.ok.above))).trans e1⟩
  ·by_cases hj:j=i
   ·subst hj;rw [hi] at e1;cases e1;rw [List.getElem?_set_self hiσ] at e2;cases e2;exact⟨u,r,.inl ⟨hk,by simp⟩⟩
   ·rw [List.getElem?_set_ne (Ne.symm hj)] at e2;obtain⟨u',r',q⟩:=hl j y v' e1 e2 e3
    refine⟨u',r',?_⟩;rcases q with⟨k,e⟩|⟨k,c,e,z⟩
    ·refine .inl ⟨k,?_⟩;have:y≠x:=fun e=>hj (jx hN e1 (e▸hi))
     simp [this,e]
    ·exact .inr ⟨k,c,e,z.sameBut hs (cne y c e)⟩
  ·obtain⟨w',z⟩:=I.cell y c e
   exact⟨w',z.sameBut hs (cne y c e)⟩
  ·obtain⟨e,n,ne,nf,d⟩:=I.pin p hp
   exact⟨(hs.2 p.1 ne).trans e,n,ne,nf,d⟩
 ·have oM:X.fn x=true:=by
   rcases hf with z|z
   ·exact z
   ·rw [z] at hk;cases hk
  obtain⟨c,hc⟩:=I.ok.has x (.inl hk)
  obtain⟨w',z⟩:=I.cell x c hc
  refine wpAny_storeName_cell I.ok.kind hk hc z (fun h' gq hs=>?_);obtain⟨oc,hoc,hocd⟩:=id z
  refine h {s with heap:=h'} ⟨I.ok,I.os,I.bare,⟨fun b o e n hb hx=>?_,fun b o e n hb hx=>?_,I.base.free,fun b o e hx=>?_,I.base.tups,I.base.frzs,I.base.tbls⟩,⟨m,hn.sameBut hs (Ne.symm (cne x c hc)),fun j y v' e1 e2 e3=>?_⟩,fun y c' e=>?_,I.free,I.freeC,fun p hp=>?_,tracked ⟨oc,hoc,I.freeC x c hc⟩ hs,by simpa using I.len⟩ ⟨c,hs,.inr hc⟩
  ·exact(hs.2 b (Nat.ne_of_lt (Nat.lt_of_lt_of_le (Heap.lt_size e) (I.ok.cab x c oM hc)))).trans (I.base.keep b o e n hb hx)
  ·obtain⟨sl,e1⟩:=I.base.slot b o e n hb hx
   exact⟨sl,(hs.2 b (Nat.ne_of_lt (Nat.lt_of_lt_of_le (Heap.lt_size e) (I.ok.cab x c oM hc)))).trans e1⟩
  ·obtain⟨o',e1⟩:=I.base.there b o e hx
   exact⟨o',(hs.2 b (Nat.ne_of_lt (Nat.lt_of_lt_of_le (Heap.lt_size e) (I.ok.cab x c oM hc)))).trans e1⟩
  ·by_cases hj:j=i
   ·subst hj;rw [hi] at e1;cases e1;rw [List.getElem?_set_self hiσ] at e2;cases e2;exact⟨u,r,.inr ⟨.inl hk,c,hc,gq⟩⟩
   ·rw [List.getElem?_set_ne (Ne.symm hj)] at e2;obtain⟨u',r',q⟩:=hl j y v' e1 e2 e3
    refine⟨u',r',?_⟩;rcases q with q|⟨k,c',e,z'⟩
    ·exact .inl q
    ·refine .inr ⟨k,c',e,z'.sameBut hs ?_⟩
     rintro rfl
     exact hj (jx hN e1 (I.ok.inj _ _ _ e hc▸hi))
  ·by_cases hcc:c'=c
   ·subst hcc;exact⟨_,gq⟩
   ·obtain⟨w2,z2⟩:=I.cell y c' e
    exact⟨w2,z2.sameBut hs hcc⟩
  ·obtain⟨e,n,ne,nf,d⟩:=I.pin p hp
   refine⟨(hs.2 p.1 ?_).trans e,n,ne,nf,d⟩;intro q;rw [q,hoc] at e;have q':oc=p.2:=Option.some.inj e
   exact d w' (by rw [←q'];exact hocd)
theorem ib{M:Model}{A:Around}{E:Value→Shared→Prop}{i:Nat}{x:Str}{v:V}{u:Value}{Q:Unit→Shared→Prop}(I:Inv X pins σ H s)(hN:X.N.Nodup)(hi:X.N[i]?=some x)(hx:Loc X.env.scope x)(r:RelV v u)
 (h:∀s',Inv X pins (σ.set i (some v)) H s'→Q () s') (hf:X.fn x=true∨X.env.scope.names.lookup x=some .local:=by first|exact .inl rfl|exact .inr rfl|assumption):wpAny M A (storeName X.env x u) Q E s:=
 iC I hN hi hx r (fun s' I' _=>h s' I') hf
theorem Inv.call'{s':Shared}{ch:List Addr}(I:Inv X pins σ H s)(ho:s'.os=s.os)(u:Un (d0 X.stack) ch H H' s.heap s'.heap)(hok:dN X.prog X.w H' s'.heap)(hg:AllBare s'.gens)
 (vq:∀b∈ch,(b∈X.ex∨X.s₀.heap.objs.size≤b)∧b≠X.env.locals∧(∀x c,X.env.cells.lookup x=some c→c≠b)∧∀p∈X.pn++pins,p.1≠b):Inv X pins σ H' s':=by
 obtain⟨h',g',d',t',o'⟩:=s'
 have e:o'=s.os:=ho
 subst e;exact I.call (g':=g') (t':=t') (d':=d') u hok hg vq
end
abbrev XK:=Value→Option Addr→Hp→Prop
abbrev St:=List (Option V)
abbrev VK:=V→Hp→Prop
abbrev TE:=St→Hp→VK→Prop
abbrev TT:=St→Hp→(Bool→Hp→Prop)→Prop
abbrev TA:=St→Hp→(List V→Hp→Prop)→Prop
structure Ends where
 nx:St→Hp→Prop
 rt:VK
 bk:St→Hp→Prop:=fun _ _=>False
 ct:St→Hp→Prop:=fun _ _=>False
abbrev TS:=Ends→St→Hp→Prop
def EP(X:Cx)(pins:List (Addr×Obj))(σ:St)(Q:VK)(u:Value)(s':Shared):Prop:=∃v H',Inv X pins σ H' s'∧RelV v u∧Q v H'
def TP(X:Cx)(pins:List (Addr×Obj))(σ:St)(Q:Bool→Hp→Prop)(b:Bool)(s':Shared):Prop:=∃H',Inv X pins σ H' s'∧Q b H'
def AP(X:Cx)(pins:List (Addr×Obj))(σ:St)(Q:List V→Hp→Prop)(us:List Value)(s':Shared):Prop:=∃vs H',Inv X pins σ H' s'∧Vals vs us∧Q vs H'
def SP(X:Cx)(pins:List (Addr×Obj))(D:Ends)(f:Flow)(s':Shared):Prop:=
 match f with
 |.next=>∃σ' H',Inv X pins σ' H' s'∧D.nx σ' H'
 |.brk=>∃σ' H',Inv X pins σ' H' s'∧D.bk σ' H'
 |.cont=>∃σ' H',Inv X pins σ' H' s'∧D.ct σ' H'
 |.ret u=>∃v σ' H',Inv X pins σ' H' s'∧RelV v u∧D.rt v H'
def PE(X:Cx)(e:Expr)(t:TE):Prop:=
 ∀(pins:List (Addr×Obj)) (s:Shared) (σ:St) (H:Hp) (Q:VK),Inv X pins σ H s→t σ H Q→wpAny (model X.prog X.w) X.A (eval e X.env) (EP X pins σ Q) X.xe s
def PT(X:Cx)(e:Expr)(t:TT):Prop:=
 ∀(pins:List (Addr×Obj)) (s:Shared) (σ:St) (H:Hp) (Q:Bool→Hp→Prop),Inv X pins σ H s→t σ H Q→wpAny (model X.prog X.w) X.A (isTrue e X.env (eval e X.env)) (TP X pins σ Q) X.xe s
def PW(X:Cx)(e:Expr)(t:TT):Prop:=
 ∀(whole:Sem Value) (pins:List (Addr×Obj)) (s:Shared) (σ:St) (H:Hp) (Q:Bool→Hp→Prop),Inv X pins σ H s→t σ H Q→wpAny (model X.prog X.w) X.A (isTrue e X.env whole) (TP X pins σ Q) X.xe s
theorem PW.pt{X:Cx}{e:Expr}{t:TT}(h:PW X e t):PT X e t:=h _
def PA(X:Cx)(es:List Expr)(t:TA):Prop:=
 ∀(pos:Pos) (pins:List (Addr×Obj)) (s:Shared) (σ:St) (H:Hp) (Q:List V→Hp→Prop),Inv X pins σ H s→t σ H Q→wpAny (model X.prog X.w) X.A (spliced (backTo pos (starEach es X.env))) (AP X pins σ Q) X.xe s
def PS(X:Cx)(st:Stmt)(t:TS):Prop:=
 ∀(pins:List (Addr×Obj)) (s:Shared) (σ:St) (H:Hp) (D:Ends),Inv X pins σ H s→t D σ H→wpAny (model X.prog X.w) X.A (exec st X.env) (SP X pins D) X.xe s
def PSs(X:Cx)(st:List Stmt)(t:TS):Prop:=
 ∀(pins:List (Addr×Obj)) (s:Shared) (σ:St) (H:Hp) (D:Ends),Inv X pins σ H s→t D σ H→wpAny (model X.prog X.w) X.A (execs st X.env) (SP X pins D) X.xe s
theorem bC{α:Type}{t:Sem α}{Q Q':α→Shared→Prop}{M:Model}{A:Around}{E:Value→Shared→Prop}{s:Shared}(h:wpAny M A t Q E s)(hQ:∀a s,Q a s→Q' a s):wpAny M A t Q' E s:=wpAny_mono h hQ fun _ _ x=>x
end L2
namespace L2
open PySem PySem.Spec PyProof.Rows
section
variable{X:Cx}
theorem bin{a b:Expr}{ta tb:TE}(ha:PE X a ta)(hb:PE X b tb){pins:List (Addr×Obj)}{s:Shared}{σ:St}{H:Hp}{R:V→V→Hp→Prop}(I:Inv X pins σ H s)(h:ta σ H fun x H1=>tb σ H1 fun y H2=>R x y H2)
 {α:Type} {Q:α→Shared→Prop} {f:Value→Value→Sem α}
 (hf:∀v u s2 x y H2,Inv X pins σ H2 s2→RelV x v→RelV y u→R x y H2→wpAny (model X.prog X.w) X.A (f v u) Q X.xe s2):
 wpAny (model X.prog X.w) X.A (eval a X.env) (fun v s₁=>wpAny (model X.prog X.w) X.A (eval b X.env) (fun u s₂=>wpAny (model X.prog X.w) X.A (f v u) Q X.xe s₂) X.xe s₁) X.xe s:=by
 refine bC (ha pins s σ H _ I h) fun v s1 ⟨x,H1,I1,r1,q1⟩=>?_
 refine bC (hb pins s1 σ H1 _ I1 q1) fun u s2 ⟨y,H2,I2,r2,q2⟩=>?_
 exact hf v u s2 x y H2 I2 r1 r2 q2
def xM(i:Nat):TE:=fun σ H Q=>∃v,σ[i]?=some (some v)∧Q v H
def tC(v:V):TE:=fun _ H Q=>Q v H
theorem d7{i:Nat}{x:Str}{pos:Pos}(hN:X.N[i]?=some x)(hv:FV X.env.scope x)(hd:(x==("__debug__":Str))=false:=by decide)(rf:(x==("__classdict__":Str))=false:=by decide):PE X (.Name x pos) (xM i):=by
 intro pins s σ H Q I h;obtain⟨v,e,h⟩:=h
 obtain⟨m,hn,hl⟩:=I.loc
 obtain⟨u,r,l⟩:=hl i x v hN e hv
 have fin:EP X pins σ Q u s:=⟨v,H,I,r,h⟩
 rcases l with⟨hk,hm⟩|⟨hk,c,hc,dF⟩
 ·exact wpAny_Name (wpAny_loadName_local I.ok.kind hk hn hm fin) hd
 ·rcases hk with hk|hk
  ·exact wpAny_Name (wpAny_loadName_cell I.ok.kind hk hc dF fin) hd
  ·exact wpAny_Name (wpAny_loadName_free I.ok.kind hk hc dF fin rf) hd
theorem xT{i j pos}:PE X (.Constant (.int i) j pos) (tC (.int i)):=fun _ _ _ H _ I h=>wpAny_Constant_int ⟨.int i,H,I.tok _,⟨_,rfl⟩,h⟩
theorem Bv{b j pos}:PE X (.Constant (.bool b) j pos) (tC (.bl b)):=fun _ _ _ H _ I h=>Constant_bool ⟨.bl b,H,I,rfl,h⟩
theorem Cn{j pos}:PE X (.Constant .none j pos) (tC .non):=fun _ _ _ H _ I h=>Constant_none ⟨.non,H,I,rfl,h⟩
theorem wG{x j pos}:PE X (.Constant (.str x) j pos) (tC (.str x)):=fun _ _ _ H _ I h=>Calls.Constant_str ⟨.str x,H,I.tok _,⟨_,rfl⟩,h⟩
def Gl(X:Cx)(x:Str):Prop:=X.env.kindOf x=some .globalImplicit
theorem fY{E:Value→Shared→Prop}{pins:List (Addr×Obj)}{s:Shared}{σ:St}{H:Hp}{x:Str}{u:Value}{pos:Pos}{Q:Value→Shared→Prop}(I:Inv X pins σ H s)(hg:Gl X x)(hm:X.mg x=some u)(h:Q u s)
 (hd:(x==("__debug__":Str))=false:=by decide):wpAny (model X.prog X.w) X.A (eval (.Name x pos) X.env) Q E s:=
 Calls.Name_function_global I.ok.kind hg (Calls.loadGlobal_global (by rw [I.ok.glob];exact I.mod.glob.keeps I.bk) hm h) hd
theorem dJ{E:Value→Shared→Prop}{pins:List (Addr×Obj)}{s:Shared}{σ:St}{H:Hp}{x:Str}{u:Value}{pos:Pos}{Q:Value→Shared→Prop}(I:Inv X pins σ H s)(hg:Gl X x)(hm:X.mg x=none)(hv:bootBuiltins x=some u)(h:Q u s)
 (hn:x≠"__name__":=by decide) (hd:(x==("__debug__":Str))=false:=by decide):wpAny (model X.prog X.w) X.A (eval (.Name x pos) X.env) Q E s:=by
 obtain⟨mb,h1,h2⟩:=I.mod.blt
 exact Calls.Name_function_global I.ok.kind hg (Calls.loadGlobal_builtin (by rw [I.ok.glob];exact I.mod.glob.keeps I.bk) hm (by rw [I.ok.blt];exact h1.keeps I.bk) ((h2 x hn).trans hv) h) hd
theorem yX{x:Str}{v:V}{u:Value}{pos:Pos}(hg:Gl X x)(hm:X.mg x=some u)(r:RelV v u)(hd:(x==("__debug__":Str))=false:=by decide):PE X (.Name x pos) (tC v):=
 fun _ _ _ H _ I h=>fY I hg hm ⟨v,H,I,r,h⟩ hd
theorem z9{x:Str}{v:V}{u:Value}{pos:Pos}(hg:Gl X x)(hm:X.mg x=none)(hv:bootBuiltins x=some u)(r:RelV v u)(hn:x≠"__name__":=by decide)(hd:(x==("__debug__":Str))=false:=by decide):PE X (.Name x pos) (tC v):=
 fun _ _ _ H _ I h=>dJ I hg hm hv ⟨v,H,I,r,h⟩ hn hd
variable{a b:Expr}{ta tb:TE}{pos:Pos}
def tB(t:TE):TT:=fun σ H Q=>t σ H fun x H1=>∃c,x=.bl c∧Q c H1
theorem BL{e:Expr}{t:TE}(h:PE X e t)(he:∀whole,isTrue e X.env whole=(do let v←whole;standAt e.pos;holding [v] (truthy v)):=by intro _;rfl):PT X e (tB t):=by
 intro pins s σ H Q I hw;refine isTrue_plain (bC (h pins s σ H _ I hw) fun v s1 ⟨x,H1,I1,r1,q1⟩=>?_) (he _)
 obtain⟨d,rfl,q⟩:=q1
 cases r1;exact wpAny_truthy_bool ⟨H1,I1,q⟩
variable{tA Gd:TT}{rest:List Expr}
def JS(t u:TT):TT:=fun σ H Q=>t σ H fun c H1=>if c=true then u σ H1 Q else Q false H1
def MU(t u:TT):TT:=fun σ H Q=>t σ H fun c H1=>if c=true then Q true H1 else u σ H1 Q
def JX(t:TT):TT:=fun σ H Q=>t σ H fun c H1=>Q (!c) H1
theorem pw_and1(ha:PT X a tA):PW X (.BoolOp .And [a] pos) tA:=by
 intro wh pins s σ H Q I h;refine isTrue_and (bC (ha pins s σ H Q I h) fun c s1 e=>?_)
 cases c with
 |true=>exact isTrue_and_nil e
 |false=>exact e
theorem pw_or1(ha:PT X a tA):PW X (.BoolOp .Or [a] pos) tA:=by
 intro wh pins s σ H Q I h;refine isTrue_or (bC (ha pins s σ H Q I h) fun c s1 e=>?_)
 cases c with
 |false=>exact isTrue_or_nil e
 |true=>exact e
theorem pw_and(ha:PT X a tA)(hb:PW X (.BoolOp .And (b::rest) pos) Gd):PW X (.BoolOp .And (a::b::rest) pos) (JS tA Gd):=by
 intro wh pins s σ H Q I h;refine isTrue_and (bC (ha pins s σ H _ I h) fun c s1 ⟨H1,I1,q1⟩=>?_)
 cases c with
 |true=>exact hb wh pins s1 σ H1 Q I1 q1
 |false=>exact⟨H1,I1,q1⟩
theorem pw_or(ha:PT X a tA)(hb:PW X (.BoolOp .Or (b::rest) pos) Gd):PW X (.BoolOp .Or (a::b::rest) pos) (MU tA Gd):=by
 intro wh pins s σ H Q I h;refine isTrue_or (bC (ha pins s σ H _ I h) fun c s1 ⟨H1,I1,q1⟩=>?_)
 cases c with
 |true=>exact⟨H1,I1,q1⟩
 |false=>exact hb wh pins s1 σ H1 Q I1 q1
theorem Cu(ha:PT X a tA):PT X (.UnaryOp .Not a pos) (JX tA):=by
 intro pins s σ H Q I h;exact isTrue_not (ha pins s σ H (fun c H1=>Q (!c) H1) I h)
def Gf(ta tb:TE):TE:=fun σ H Q=>ta σ H fun x H1=>∃c,x=.bl c∧if c=true then tb σ H1 Q else Q (.bl false) H1
def Ke(ta tb:TE):TE:=fun σ H Q=>ta σ H fun x H1=>∃c,x=.bl c∧if c=true then Q (.bl true) H1 else tb σ H1 Q
def Fq(ta:TE):TE:=fun σ H Q=>ta σ H fun x H1=>∃c,x=.bl c∧Q (.bl (!c)) H1
theorem wF{op}{t:TE}(h:PE X a t):PE X (.BoolOp op [a] pos) t:=fun pins s σ H Q I hw=>BoolOp_one (h pins s σ H Q I hw)
theorem C5(ha:PE X a ta)(hb:PE X (.BoolOp .And (b::rest) pos) tb):PE X (.BoolOp .And (a::b::rest) pos) (Gf ta tb):=by
 intro pins s σ H Q I h;refine BoolOp_and (bC (ha pins s σ H _ I h) fun v s1 ⟨x,H1,I1,r1,q1⟩=>?_)
 obtain⟨c,rfl,q1⟩:=q1
 cases r1;refine wpAny_truthy_bool ?_;cases c with
 |true=>exact hb pins s1 σ H1 Q I1 q1
 |false=>exact⟨.bl false,H1,I1,rfl,q1⟩
theorem Fg(ha:PE X a ta)(hb:PE X (.BoolOp .Or (b::rest) pos) tb):PE X (.BoolOp .Or (a::b::rest) pos) (Ke ta tb):=by
 intro pins s σ H Q I h;refine BoolOp_or (bC (ha pins s σ H _ I h) fun v s1 ⟨x,H1,I1,r1,q1⟩=>?_)
 obtain⟨c,rfl,q1⟩:=q1
 cases r1;refine wpAny_truthy_bool ?_;cases c with
 |false=>exact hb pins s1 σ H1 Q I1 q1
 |true=>exact⟨.bl true,H1,I1,rfl,q1⟩
theorem CG(ha:PE X a ta):PE X (.UnaryOp .Not a pos) (Fq ta):=by
 intro pins s σ H Q I h;refine UnaryOp_ (bC (ha pins s σ H _ I h) fun v s1 ⟨x,H1,I1,r1,q1⟩=>?_)
 obtain⟨c,rfl,q1⟩:=q1
 cases r1;exact not_of (wpAny_truthy_bool ⟨.bl (!c),H1,I1,rfl,q1⟩)
def Nd(t:TT)(ta tb:TE):TE:=fun σ H Q=>t σ H fun c H1=>if c=true then ta σ H1 Q else tb σ H1 Q
theorem xu{c:Expr}(hc:PT X c tA)(ha:PE X a ta)(hb:PE X b tb):PE X (.IfExp c a b pos) (Nd tA ta tb):=by
 intro pins s σ H Q I h;refine wpAny_IfExp (bC (hc pins s σ H _ I h) fun d s1 ⟨H1,I1,q1⟩=>?_)
 cases d with
 |true=>exact ha pins s1 σ H1 Q I1 q1
 |false=>exact hb pins s1 σ H1 Q I1 q1
end
end L2
namespace L2
open PySem PySem.Spec PyProof.Rows
def eh(K:PySem.W.Frag)(H:Hp)(a:Addr)(xs:List V):Prop:=
 Rd H a (.lst xs)∨
  ∃(o:Obj) (aq:Array Value) (n:Nat),K.lookup a=some o∧o.cls=.type "list"∧o.dict=none∧o.data=.seq aq n∧aq.size≤sizeLine∧Vals xs aq.toList
def ez(K:PySem.W.Frag)(H:Hp)(a:Addr)(xs:List V):Prop:=
 Rd H a (.tup xs)∨
  ∃(o:Obj) (aq:Array Value) (n:Nat),K.lookup a=some o∧o.cls=.type "tuple"∧o.data=.seq aq n∧aq.size≤sizeLine∧Vals xs aq.toList
noncomputable def Im:Value→Option V
 |.none=>some .non
 |.bool b=>some (.bl b)
 |.int i _=>some (.int i)
 |.str x _=>some (.str x)
 |.bytes b _=>some (.byt b)
 |.float b _=>some (.flt b)
 |.ref a=>some (.ref a)
 |.type n=>some (.ty n)
 |_=>none
theorem RelV.abs{x:V}{u:Value}(r:RelV x u):Im u=some x:=by
 cases x with
 |non=>cases r;rfl
 |bl _=>cases r;rfl
 |int _=>obtain⟨t,rfl⟩:=r;rfl
 |str _=>obtain⟨t,rfl⟩:=r;rfl
 |byt _=>obtain⟨t,rfl⟩:=r;rfl
 |flt _=>obtain⟨t,rfl⟩:=r;rfl
 |ref _=>cases r;rfl
 |ty _=>cases r;rfl
theorem RelV.inj{x y:V}{u:Value}(r:RelV x u)(q:RelV y u):x=y:=Option.some.inj (r.abs.symm.trans q.abs)
theorem Vals.inj:∀{xs ys:List V} {us:List Value},Vals xs us→Vals ys us→xs=ys
 |_,_,_,.nil,.nil=>rfl
 |_,_,_,.cons r t,.cons r' t'=>by rw [r.inj r',Vals.inj t t']
section
variable{X:Cx}{pins:List (Addr×Obj)}{σ:St}{H:Hp}{s:Shared}{a:Addr}{xs ys:List V}
theorem eh.of{K:PySem.W.Frag}(h:H a=some (.lst xs)):eh K H a xs:=.inl (.inl h)
theorem Inv.list(I:Inv X pins σ H s)(h:eh X.K H a xs):∃aq:List Value,Vals xs aq∧PlainL s.heap a aq.toArray∧xs.length≤sizeLine:=by
 rcases h with h|⟨o,aq,n,hk,hc,hd,hs,hz,r⟩
 ·obtain⟨z,aq,n,r,e⟩:=h.ok I.hok
  exact⟨aq,r,⟨_,n,e,rfl,rfl,rfl⟩,z⟩
 ·refine⟨aq.toList,r,⟨o,n,I.kIn a o hk,hc,hd,by simpa using hs⟩,?_⟩;have e:=r.length
  simp only [Array.length_toList] at e;omega
theorem Inv.tuple(I:Inv X pins σ H s)(h:ez X.K H a xs):∃aq:List Value,Vals xs aq∧IsTup s.heap a aq.toArray∧xs.length≤sizeLine:=by
 rcases h with h|⟨o,aq,n,hk,hc,hs,hz,r⟩
 ·obtain⟨z,aq,r,p⟩:=h.ok I.hok
  exact⟨aq,r,p,z⟩
 ·refine⟨aq.toList,r,⟨o,I.kIn a o hk,hc,n,by simpa using hs⟩,?_⟩;have e:=r.length
  simp only [Array.length_toList] at e;omega
theorem Inv.list_inj(I:Inv X pins σ H s)(h:eh X.K H a xs)(h':eh X.K H a ys):xs=ys:=by
 obtain⟨aq,r,⟨o,n,e,_,_,d⟩,_⟩:=I.list h
 obtain⟨its',r',⟨o',n',e',_,_,d'⟩,_⟩:=I.list h'
 rw [e] at e';cases e';rw [d] at d'
 injection d' with d1 _
 have:aq=its':=by simpa using congrArg Array.toList d1
 subst this;exact r.inj r'
theorem Inv.tuple_inj(I:Inv X pins σ H s)(h:ez X.K H a xs)(h':ez X.K H a ys):xs=ys:=by
 obtain⟨aq,r,⟨o,e,_,n,d⟩,_⟩:=I.tuple h
 obtain⟨its',r',⟨o',e',_,n',d'⟩,_⟩:=I.tuple h'
 rw [e] at e';cases e';rw [d] at d'
 injection d' with d1 _
 have:aq=its':=by simpa using congrArg Array.toList d1
 subst this;exact r.inj r'
end
section
variable{X:Cx}{pins:List (Addr×Obj)}{σ:St}{H:Hp}{s:Shared}{E:Value→Shared→Prop}
end
section
variable{X:Cx}{st:Stmt}{rest:List Stmt}{t u:TS}{e:Expr}{te:TE}{pos:Pos}
def Ft:TS:=fun D σ H=>D.nx σ H
def JR(t u:TS):TS:=fun D σ H=>t {D with nx:=u D} σ H
theorem yW:PSs X [] Ft:=fun _ _ σ H _ I h=>wpAny_execs_nil ⟨σ,H,I,h⟩
theorem yb(h1:PS X st t)(h2:PSs X rest u):PSs X (st::rest) (JR t u):=by
 intro pins s σ H D I h;refine wpAny_execs_cons (bC (h1 pins s σ H {D with nx:=u D} I h) fun f s1 q=>?_)
 cases f with
 |next=>
  obtain⟨σ',H',I',q⟩:=q
  exact h2 pins s1 σ' H' D I' q
 |ret v=>exact q
 |brk=>exact q
 |cont=>exact q
theorem Inv.quiet{pins:List (Addr×Obj)}{σ:St}{H:Hp}{s:Shared}(I:Inv X pins σ H s):interactive X.env=false:=by simp [interactive,I.ok.kind]
def FH(te:TE):TS:=fun D σ H=>te σ H fun _ H1=>D.nx σ H1
theorem nN(he:PE X e te)(hs:swapsWith e none pos.line X.env=pure false:=by rfl):PS X (.Expr e pos) (FH te):=by
 intro pins s σ H D I h;exact wpAny_Expr_any (bC (he pins s σ H _ I h) fun v s1 ⟨x,H1,I1,r1,q1⟩=>⟨σ,H1,I1,q1⟩) I.quiet hs
def IG(te:TE):TS:=fun D σ H=>te σ H D.rt
theorem D3(he:PE X e te):PS X (.Return (some e) pos) (IG te):=by
 intro pins s σ H D I h;exact wpAny_Return_some (bC (he pins s σ H _ I h) fun v s1 ⟨x,H1,I1,r1,q1⟩=>⟨x,σ,H1,I1,r1,q1⟩)
def IX(c:TT)(t u:TS):TS:=fun D σ H=>c σ H fun b H1=>if b=true then t D σ H1 else u D σ H1
theorem G7{c:Expr}{a b:List Stmt}{tc:TT}(hc:PT X c tc)(ha:PSs X a t)(hb:PSs X b u):PS X (.If c a b pos) (IX tc t u):=by
 intro pins s σ H D I h;refine wpAny_If (bC (hc pins s σ H _ I h) fun d s1 ⟨H1,I1,q1⟩=>?_)
 cases d with
 |true=>exact ha pins s1 σ H1 D I1 q1
 |false=>exact hb pins s1 σ H1 D I1 q1
end
abbrev TG:=V→St→Hp→(St→Hp→Prop)→Prop
abbrev DO:=List V→St→Hp→(St→Hp→Prop)→Prop
def PG(X:Cx)(target:Expr)(t:TG):Prop:=
 ∀(pins:List (Addr×Obj)) (s:Shared) (σ:St) (H:Hp) (v:V) (u:Value) (Q:St→Hp→Prop),Inv X pins σ H s→RelV v u→t v σ H Q→
  wpAny (model X.prog X.w) X.A (assign target X.env u) (fun _ s'=>∃σ' H',Inv X pins σ' H' s'∧Q σ' H') X.xe s
def Hh(X:Cx)(ts:List Expr)(t:DO):Prop:=
 ∀(pins:List (Addr×Obj)) (s:Shared) (σ:St) (H:Hp) (vs:List V) (us:List Value) (Q:St→Hp→Prop),Inv X pins σ H s→Vals vs us→t vs σ H Q→
  wpAny (model X.prog X.w) X.A (assignInOrder ((assignEach ts X.env).map (·.2)) us) (fun _ s'=>∃σ' H',Inv X pins σ' H' s'∧Q σ' H') X.xe s
abbrev Dh:=V→V→V→Hp→(Hp→Prop)→Prop
def GZ(X:Cx)(t:Dh):Prop:=
 ∀(pins:List (Addr×Obj)) (s:Shared) (σ:St) (H:Hp) (o i v:V) (ov iv u:Value) (Q:Hp→Prop),Inv X pins σ H s→RelV o ov→RelV i iv→RelV v u→t o i v H Q→
  wpAny (model X.prog X.w) X.A (setItem ov iv u) (fun _ s'=>∃H',Inv X pins σ H' s'∧Q H') X.xe s
section
variable{X:Cx}{pos:Pos}
def gb(i:Nat):TG:=fun v σ H Q=>Q (σ.set i (some v)) H
theorem yP{i:Nat}{x:Str}(hN:X.N.Nodup)(hi:X.N[i]?=some x)(hx:Loc X.env.scope x)(hf:X.fn x=true∨X.env.scope.names.lookup x=some .local:=by first|exact .inl rfl|exact .inr rfl|assumption):PG X (.Name x pos) (gb i):=by
 intro pins s σ H v u Q I r h;exact wpAny_assign_Name (ib I hN hi hx r (fun s' I'=>⟨_,H,I',h⟩) hf)
def FP:DO:=fun vs σ H Q=>vs=[]∧Q σ H
def yh(t:TG)(u:DO):DO:=fun vs σ H Q=>∃v r,vs=v::r∧t v σ H fun σ' H'=>u r σ' H' Q
theorem Af:Hh X [] FP:=by
 intro pins s σ H vs us Q I r h;obtain⟨e,h⟩:=h
 subst e;cases r;exact assignInOrder_nil ⟨σ,H,I,h⟩
theorem p9{e:Expr}{es:List Expr}{t:TG}{u:DO}(h1:PG X e t)(h2:Hh X es u)
 (hs:(assignEach (e::es) X.env).map (·.2)=assign e X.env::(assignEach es X.env).map (·.2):=by rfl):Hh X (e::es) (yh t u):=by
 intro pins s σ H vs us Q I r h;obtain⟨v,vr,e1,h⟩:=h
 subst e1;cases r with
 |cons r rr=>
  rw [hs];refine assignInOrder_cons (bC (h1 pins s σ H _ _ _ I r h) fun _ s1 ⟨σ1,H1,I1,q1⟩=>?_)
  exact h2 pins s1 σ1 H1 _ _ Q I1 rr q1
noncomputable def GL(K:PySem.W.Frag)(n:Nat)(t:DO):TG:=fun v σ H Q=>∃a xs,v=.ref a∧ez K H a xs∧xs.length=n∧t xs σ H Q
theorem BW{es:List Expr}{k:Nat}{t:DO}{n:Nat}(hc:X.calm=true)(h:Hh X es t)
 (hn:(assignEach es X.env).length=n:=by rfl) (dB:(assignEach es X.env).findIdx? (·.1)=none:=by rfl):PG X (.Tuple es k pos) (GL X.K n t):=by
 intro pins s σ H v u Q I r hw;obtain⟨a,xs,e1,hq,hl,hw⟩:=hw
 subst e1;cases r;obtain⟨aq,rv,ht,hz⟩:=I.tuple hq
 refine assign_Tuple_tuple (I.ok.hd hc) ht (by simp [hn,←hl,rv.length]) dB fun h' hx=>?_
 have I1:Inv X pins σ H {s with heap:=h'}:=I.kept (t':=s.toks) fun b o e=>hx b o (Nat.ne_of_lt (Heap.lt_size e)) e
 exact h pins _ σ H xs _ Q I1 (by simpa using rv) hw
def Ik(to ti:TE)(t:Dh):TG:=fun v σ H Q=>to σ H fun o H1=>ti σ H1 fun i H2=>t o i v H2 fun H3=>Q σ H3
theorem x6{o i:Expr}{to ti:TE}{t:Dh}(ho:PE X o to)(hi:PE X i ti)(hs:GZ X t)
 (ha:∀v,assign (.Subscript o i pos) X.env v=(do
  let ov←holding [v] (eval o X.env)
  let iv←holding [v,ov] (eval i X.env)
  standAt pos
  holding [v,ov,iv] (setItem ov iv v)
  release [v,ov,iv] []):=by intro _;rfl):PG X (.Subscript o i pos) (Ik to ti t):=by
 intro pins s σ H v u Q I r h;rw [ha];refine wpAny_bind (wpAny_holding (bC (ho pins s σ H _ I h) fun ov s1 ⟨x,H1,I1,r1,q1⟩=>?_))
 refine wpAny_bind (wpAny_holding (bC (hi pins s1 σ H1 _ I1 q1) fun iv s2 ⟨y,H2,I2,r2,q2⟩=>?_))
 refine wpAny_bind (wpAny_standAt (wpAny_bind (wpAny_holding (bC (hs pins s2 σ H2 x y v ov iv u _ I2 r1 r2 r q2) fun _ s3 ⟨H3,I3,q3⟩=>?_))))
 exact wpAny_release ⟨σ,H3,I3,q3⟩
def zt(te:TE)(g:TG):TS:=fun D σ H=>te σ H fun x H1=>g x σ H1 D.nx
theorem wt{tg e:Expr}{te:TE}{g:TG}(he:PE X e te)(hg:PG X tg g)(hs:swapsWithSole [tg] e pos.line X.env=pure false:=by rfl)(hw:swappedStores [tg] e X.env=pure none:=by rfl)
 (h1:(assignEach [tg] X.env).map (·.2)=[assign tg X.env]:=by rfl):PS X (.Assign [tg] e pos) (zt te g):=by
 intro pins s σ H D I h;refine wpAny_Assign_stores (bC (he pins s σ H _ I h) fun v s1 ⟨x,H1,I1,r1,q1⟩=>?_) hs hw
 rw [h1];exact bC (hg pins s1 σ H1 x v _ I1 r1 q1) fun _ s2 q=>q
theorem iJ{i:Nat}{x:Str}{e:Expr}{te:TE}{pos':Pos}(hN:X.N.Nodup)(hi:X.N[i]?=some x)(hx:Loc X.env.scope x)(he:PE X e te)(hs:swapsWith e (some (.Name x pos')) pos.line X.env=pure false:=by rfl)(hf:X.fn x=true∨X.env.scope.names.lookup x=some .local:=by first|exact .inl rfl|exact .inr rfl|assumption):
 PS X (.Assign [.Name x pos'] e pos) (zt te (gb i)):=by
 intro pins s σ H D I h;refine wpAny_Assign_Name (bC (he pins s σ H _ I h) fun v s1 ⟨y,H1,I1,r1,q1⟩=>?_) hs
 exact ib I1 hN hi hx r1 (fun s2 I2=>⟨_,H1,I2,q1⟩) hf
def IK(i j:Nat)(ta:TA):TS:=fun D σ H=>ta σ H fun vs H1=>∃v w,vs=[v,w]∧D.nx ((σ.set i (some v)).set j (some w)) H1
theorem BZ{i j:Nat}{x y:Str}{a b:Expr}{ta:TA}{px py pt:Pos}{kt k2 ED}(hc:X.calm=true)(hN:X.N.Nodup)(hi:X.N[i]?=some x)(hj:X.N[j]?=some y)(H9:i≠j)
 (hx:X.env.scope.names.lookup x=some .local) (hy:X.env.scope.names.lookup y=some .local) (ha:PA X [a,b] ta)
 (hw:swappedStores [.Tuple [.Name x px,.Name y py] kt pt] (.Tuple [a,b] k2 ED) X.env=pure (some [x,y]))
 (hs:swapsWithSole [.Tuple [.Name x px,.Name y py] kt pt] (.Tuple [a,b] k2 ED) pos.line X.env=pure false:=by rfl):
 PS X (.Assign [.Tuple [.Name x px,.Name y py] kt pt] (.Tuple [a,b] k2 ED) pos) (IK i j ta):=by
 intro pins s σ H D I h;rw [exec_Assign_arm];refine wpAny_bind (wpAny_standAt ?_);rw [hs];refine wpAny_bind (wpAny_pure ?_);rw [if_neg (by decide)];refine wpAny_bind (Tuple_ (bC (ha _ pins s σ H _ I h) fun us s1 ⟨vs,H1,I1,r1,q1⟩=>?_))
 obtain⟨v,w,e1,q1⟩:=q1
 subst e1;obtain⟨u1,u2,rfl,rv,gh⟩:∃u1 u2,us=[u1,u2]∧RelV v u1∧RelV w u2:=by
  cases r1 with
  |cons p q=>
   cases q with
   |cons p' q'=>
    cases q';exact⟨_,_,rfl,p,p'⟩
 refine wpAny_newObj_type ?_ (by show 2≤sizeLine;decide);have I2:Inv X pins σ H1 {s1 with heap:=s1.heap.push {cls:=.type "tuple",data:=.seq [u1,u2].toArray}}:=I1.kept (t':=s1.toks) fun b o e=>Heap.get?_push_of_some _ e
 rw [hw];refine wpAny_bind (wpAny_pure ?_);show wpAny (model X.prog X.w) X.A (do rule "assign.swapped-stores";let items←unpackItems (.ref s1.heap.objs.size) 2 none;assignInOrder [fun v=>bindName X.env y v,fun v=>bindName X.env x v] items.reverse;pure Flow.next) _ _ _
 refine wpAny_bind (wpAny_rule (wpAny_bind (unpackItems_tuple (items:=#[u1,u2]) (I.ok.hd hc) (IsTup.new s1.heap _) fun h' vp=>?_)))
 have I3:=I2.kept (h':=h') (t':=s1.toks) fun b o e=>vp b o (Nat.ne_of_lt (Heap.lt_size e)) e
 show wpAny _ _ (assignInOrder [fun v=>bindName X.env y v,fun v=>bindName X.env x v] [u2,u1]>>=fun _=>pure Flow.next) _ _ _
 refine wpAny_bind (assignInOrder_cons (wpAny_bindName (ib I3 hN hj (.inl hy) gh (fun s2 I4=>?_) (.inr hy))));refine assignInOrder_cons (wpAny_bindName (ib I4 hN hi (.inl hx) rv (fun s3 I5=>assignInOrder_nil (wpAny_pure ?_)) (.inr hx)))
 rw [List.set_comm _ _ (Ne.symm H9)] at I5;exact⟨_,H1,I5,q1⟩
end
section
variable{X:Cx}{pos:Pos}
noncomputable def Ct(c:TT)(tb:TS):TS:=fun D σ H=>∃W:Nat→St→Hp→Prop,(∃m,W m σ H)∧∀m σ H,W m σ H→
 c σ H fun b H1=>if b=true then∃N:St→Hp→Prop,(∀σ' H',N σ' H'→∃m',m'<m∧W m' σ' H')∧tb {D with nx:=N,ct:=N,bk:=D.nx} σ H1 else D.nx σ H1
theorem w8{c:Expr}{body:List Stmt}{tc:TT}{tb:TS}(hp:PassesOwn (model X.prog X.w) X.A X.env X.xe)(hc:PT X c tc)(hb:PSs X body tb):PS X (.While c body [] pos) (Ct tc tb):=by
 intro pins s σ H D I h;obtain⟨W,⟨m0,w0⟩,turn⟩:=h
 refine wpAny_While (codeAny_whileLoop (fun n s'=>∃σ' H',Inv X pins σ' H' s'∧W n σ' H') ?_ m0 ⟨σ,H,I,w0⟩)
 rintro n s1 ⟨σ1,H1,I1,w1⟩
 refine wpAny_passesOwn hp (bC (hc pins s1 σ1 H1 _ I1 (turn n σ1 H1 w1)) fun b s2 ⟨H2,I2,q2⟩=>?_)
 cases b with
 |true=>
  obtain⟨N,hN,q2⟩:=q2
  rw [if_pos rfl];refine wpAny_passesOwn hp (bC (hb pins s2 σ1 H2 _ I2 q2) fun f s3 q3=>?_)
  cases f with
  |next=>
   obtain⟨σ3,H3,I3,n3⟩:=q3
   obtain⟨m',hm,w3⟩:=hN σ3 H3 n3
   exact⟨m',hm,σ3,H3,I3,w3⟩
  |cont=>
   obtain⟨σ3,H3,I3,n3⟩:=q3
   obtain⟨m',hm,w3⟩:=hN σ3 H3 n3
   exact⟨m',hm,σ3,H3,I3,w3⟩
  |brk=>exact q3
  |ret v=>exact q3
 |false=>
  rw [if_neg zzf];exact wpAny_execs_nil ⟨σ1,H2,I2,q2⟩
end
structure It where
 go:Nat→Hp→Prop
 yld:Nat→Hp→V→Hp→Prop
 stop:Nat→Hp→Prop
def du(X:Cx)(pins:List (Addr×Obj))(H:Hp)(b:Addr):Prop:=
 H b=none∧b≠X.env.locals∧b∉X.fs∧(b∈X.ex∨X.s₀.heap.objs.size≤b)∧(∀x c,X.env.cells.lookup x=some c→c≠b)∧∀p∈X.pn++pins,p.1≠b
theorem Inv.fpOk{X:Cx}{pins:List (Addr×Obj)}{σ:St}{H H':Hp}{s:Shared}{b:Addr}(I:Inv X pins σ H s)(hb:s.heap.objs.size≤b)(hn:H' b=none):du X pins H' b:=by
 refine⟨hn,Nat.ne_of_gt (Nat.lt_of_lt_of_le I.lt hb),I.nofs hb,.inr (Nat.le_trans I.sz hb),fun x c e z=>?_,fun p hp z=>?_⟩
 ·obtain⟨v,q⟩:=I.cell x c e
  exact absurd (Nat.lt_of_lt_of_le q.lt (by rw [z];exact hb)) (Nat.lt_irrefl _)
 ·exact absurd (Nat.lt_of_lt_of_le (Heap.lt_size (I.pin p hp).1) (by rw [z];exact hb)) (Nat.lt_irrefl _)
structure Turn(P:Program)(w:World)(K:PySem.W.Frag)(tg:Expr)(J:It)(fp:List Addr)(it:Addr)(tn:Nat→Heap→Prop):Prop where
 mem:it∈fp
 obj:∀i h,tn i h→∀b∈fp,∃o,h.get? b=some o∧∀v,o.data≠.cell v
 keep:∀i h h',tn i h→(∀b∈fp,∀o,h.get? b=some o→h'.get? b=some o)→tn i h'
 item:∀(X:Cx),X.prog=P→X.w=w→X.K=K→X.calm=true→∀(i:Nat) (pins:List (Addr×Obj)) (s:Shared) (σ:St) (H:Hp) (E:Value→Shared→Prop),Inv X pins σ H s→(∀b∈fp,du X pins H b)→tn i s.heap→J.go i H→
  wpAny (model P w) X.A (pyNext (.ref it)) (fun r s1=>∃u,r=some u∧
   wpAny (model P w) X.A (letOwnedTupleGo tg (.ref it) u) (fun _ s2=>∃x H',Inv X pins σ H' s2∧RelV x u∧J.yld i H x H'∧tn (i+1) s2.heap∧∀b∈fp,H' b=none) E s1) E s
 done:∀(X:Cx),X.prog=P→X.w=w→X.K=K→X.calm=true→∀(i:Nat) (pins:List (Addr×Obj)) (s:Shared) (σ:St) (H:Hp) (E:Value→Shared→Prop),Inv X pins σ H s→(∀b∈fp,du X pins H b)→tn i s.heap→J.stop i H→
  wpAny (model P w) X.A (pyNext (.ref it)) (fun r s1=>r=none∧Inv X pins σ H s1) E s
 self:∀(A:Around) (i:Nat) (s:Shared) (Q:Value→Shared→Prop) (E:Value→Shared→Prop),tn i s.heap→Q (.ref it) s→wpAny (model P w) A (pyIter (.ref it)) Q E s
abbrev TI:=St→Hp→(It→Hp→Prop)→Prop
def Ly(X:Cx)(pins:List (Addr×Obj))(σ:St)(tg:Expr)(R:It→Hp→Prop)(JT:Value)(s2:Shared):Prop:=
 ∃(it:Addr) (fp:List Addr) (tn:Nat→Heap→Prop) (J:It) (H':Hp),JT=.ref it∧Inv X pins σ H' s2∧Turn X.prog X.w X.K tg J fp it tn∧tn 0 s2.heap∧(∀b∈fp,du X pins H' b)∧R J H'
def PI(X:Cx)(tg iter:Expr)(wi:TI):Prop:=
 ∀(pins:List (Addr×Obj)) (s:Shared) (σ:St) (H:Hp) (R:It→Hp→Prop),Inv X pins σ H s→wi σ H R→
  wpAny (model X.prog X.w) X.A (eval iter X.env) (fun v s1=>wpAny (model X.prog X.w) X.A (pyIter v) (Ly X pins σ tg R) X.xe s1) X.xe s
theorem sI{M:Model}{A:Around}{E:Value→Shared→Prop}{s:Shared}{tg:Expr}{it:Addr}{u:Value}{o:Obj}{n:String}{vs:Array Value}{Q:Unit→Shared→Prop}(ho:s.heap.get? it=some o)(hc:o.cls=.type n)(hd:o.data=.fields vs)
 (hn:["enumerate","zip","dict_itemiterator","dict_reverseitemiterator","odict_iterator","itertools.zip_longest","itertools.pairwise"].contains n=false) (hQ:Q () s):wpAny M A (letOwnedTupleGo tg (.ref it) u) Q E s:=by
 unfold letOwnedTupleGo;cases tg<;>first
  |exact wpAny_pure hQ
  |(cases u<;>first
   |exact wpAny_pure hQ
   | (refine wpAny_bind (wpAny_load ho ?_)
      rw [hc,hd];show wpAny M A (if(["enumerate","zip","dict_itemiterator","dict_reverseitemiterator","odict_iterator","itertools.zip_longest","itertools.pairwise"].contains n&&vs[0]?==some (rawInt _))=true then _ else _) Q E s;rw [if_neg (by intro h;rw [hn,Bool.false_and] at h;cases h)];exact wpAny_pure hQ))
noncomputable def Ib(K:PySem.W.Frag)(a:Addr):It:=
 ⟨fun i H=>∃xs x,eh K H a xs∧xs[i]?=some x,fun i H x H'=>H'=H∧∀xs,eh K H a xs→xs[i]?=some x,fun i H=>∃xs,eh K H a xs∧xs.length≤i⟩
noncomputable def JA(K:PySem.W.Frag)(a:Addr):It:=
 ⟨fun i H=>∃xs x,ez K H a xs∧xs[i]?=some x,fun i H x H'=>H'=H∧∀xs,ez K H a xs→xs[i]?=some x,fun i H=>∃xs,ez K H a xs∧xs.length≤i⟩
def E6(lo:Int)(n:Nat):It:=⟨fun i _=>i<n,fun i H x H'=>H'=H∧x=.int (lo+i),fun i _=>n≤i⟩
theorem uJ{P:Program}{w:World}{K:PySem.W.Frag}{tg:Expr}(a it:Addr):Turn P w K tg (Ib K a) [it] it (fun i h=>h.IsListIter it a i) where
 mem:=by simp
 obj:=fun i h st b hb=>by
  have e:b=it:=by simpa using hb
  subst e;obtain⟨o,e,c,d⟩:=st
  exact⟨o,e,fun v z=>by rw [d] at z;cases z⟩
 keep:=fun i h h' st k=>st.at fun o e=>k it (by simp) o e
 item:=by
  intro X hP hw hK hc i pins s σ H E I hf st hg;subst hP hw hK;obtain⟨xs,x,hq,hx⟩:=hg
  obtain⟨aq,rv,p,hz⟩:=I.list hq
  obtain⟨u,hu,ru⟩:=rv.get hx
  obtain⟨f0,f1,f2,f3,f4,f5⟩:=hf it (by simp)
  refine wpAny_pyNext_list_item st p.isList (x:=u) (by simpa using hu) fun h' iw sb=>?_
  have I1:Inv X pins σ H {s with heap:=h'}:=I.turned (t':=s.toks) (fun b o hb e=>(sb.2 b hb).trans e) f0 f1 f3 f4 f5
  obtain⟨o,e,c,d⟩:=id iw
  exact⟨u,rfl,sI (s:={s with heap:=h'}) e c d (by decide) ⟨x,H,I1,ru,⟨rfl,fun ys hy=>by rw [I.list_inj hy hq];exact hx⟩,iw,fun b hb=>(hf b hb).1⟩⟩
 done:=by
  intro X hP hw hK hc i pins s σ H E I hf st hg;subst hP hw hK;obtain⟨xs,hq,hx⟩:=hg
  obtain⟨aq,rv,p,hz⟩:=I.list hq
  obtain⟨f0,f1,f2,f3,f4,f5⟩:=hf it (by simp)
  have hl:=rv.length
  exact wpAny_pyNext_list_end (I.ok.hd hc) st p.isList (by simp;omega) fun h' eb=>⟨rfl,I.turned (t':=s.toks) (fun b o hb e=>eb b o hb e) f0 f1 f3 f4 f5⟩
 self:=fun _ _ _ _ _ st h=>wpAny_pyIter_listiter st h
theorem ra{P:Program}{w:World}{K:PySem.W.Frag}{tg:Expr}(a it:Addr):Turn P w K tg (JA K a) [it] it (fun i h=>h.IsTupleIter it a i) where
 mem:=by simp
 obj:=fun i h st b hb=>by
  have e:b=it:=by simpa using hb
  subst e;obtain⟨o,e,c,d⟩:=st
  exact⟨o,e,fun v z=>by rw [d] at z;cases z⟩
 keep:=fun i h h' st k=>st.at fun o e=>k it (by simp) o e
 item:=by
  intro X hP hw hK hc i pins s σ H E I hf st hg;subst hP hw hK;obtain⟨xs,x,hq,hx⟩:=hg
  obtain⟨aq,rv,p,hz⟩:=I.tuple hq
  obtain⟨u,hu,ru⟩:=rv.get hx
  obtain⟨f0,f1,f2,f3,f4,f5⟩:=hf it (by simp)
  refine wpAny_pyNext_tuple_item st (show s.heap.IsTuple a aq.toArray from p) (x:=u) (by simpa using hu) fun h' iw sb=>?_
  have I1:Inv X pins σ H {s with heap:=h'}:=I.turned (t':=s.toks) (fun b o hb e=>(sb.2 b hb).trans e) f0 f1 f3 f4 f5
  obtain⟨o,e,c,d⟩:=id iw
  exact⟨u,rfl,sI (s:={s with heap:=h'}) e c d (by decide) ⟨x,H,I1,ru,⟨rfl,fun ys hy=>by rw [I.tuple_inj hy hq];exact hx⟩,iw,fun b hb=>(hf b hb).1⟩⟩
 done:=by
  intro X hP hw hK hc i pins s σ H E I hf st hg;subst hP hw hK;obtain⟨xs,hq,hx⟩:=hg
  obtain⟨aq,rv,p,hz⟩:=I.tuple hq
  obtain⟨f0,f1,f2,f3,f4,f5⟩:=hf it (by simp)
  have hl:=rv.length
  exact wpAny_pyNext_tuple_end (I.ok.hd hc) st (show s.heap.IsTuple a aq.toArray from p) (by simp;omega) fun h' eb=>⟨rfl,I.turned (t':=s.toks) (fun b o hb e=>eb b o hb e) f0 f1 f3 f4 f5⟩
 self:=fun _ _ _ _ _ st h=>wpAny_pyIter_tupleiter st h
theorem rM{P:Program}{w:World}{K:PySem.W.Frag}{tg:Expr}(it:Addr)(lo:Int)(n:Nat):Turn P w K tg (E6 lo n) [it] it (fun i h=>IsRangeIter h it (lo+(i:Nat)*1) ((n:Int)-(i:Nat)) 1) where
 mem:=by simp
 obj:=fun i h st b hb=>by
  have e:b=it:=by simpa using hb
  subst e;exact⟨_,st,fun v z=>by
   have z':Data.fields _=Data.cell v:=z
   cases z'⟩
 keep:=fun i h h' st k=>k it (by simp) _ st
 item:=by
  intro X hP hw hK hc i pins s σ H E I hf st hg;subst hP hw hK;obtain⟨f0,f1,f2,f3,f4,f5⟩:=hf it (by simp)
  have W:=Walks.range (prog:=X.prog) (w:=X.w) (I.ok.hd hc) it lo 1 n
  refine W.item i s _ _ hg st fun v h' tk hv iw kk=>?_
  obtain⟨t,rfl⟩:=hv
  have I1:Inv X pins σ H {s with heap:=h',toks:=tk}:=I.turned (fun b o hb e=>kk b o (by simpa using hb) e) f0 f1 f3 f4 f5
  refine⟨_,rfl,sI (s:={s with heap:=h',toks:=tk}) (n:="range_iterator") iw rfl rfl (by decide) ⟨.int (lo+i),H,I1,⟨t,?_⟩,⟨rfl,rfl⟩,iw,fun b hb=>(hf b hb).1⟩⟩
  rw [Int.mul_one]
 done:=by
  intro X hP hw hK hc i pins s σ H E I hf st hg;subst hP hw hK;obtain⟨f0,f1,f2,f3,f4,f5⟩:=hf it (by simp)
  exact wpAny_pyNext_range_end (I.ok.hd hc) st (by have:n≤i:=hg;omega) fun h' eb=>⟨rfl,I.turned (t':=s.toks) (fun b o hb e=>eb b o hb e) f0 f1 f3 f4 f5⟩
 self:=fun _ _ _ _ _ st h=>wpAny_pyIter_rangeiter st h
end L2
namespace L2
open PySem PySem.Spec PyProof.Rows
section
variable{X:Cx}{tg:Expr}
noncomputable def GJ(K:PySem.W.Frag)(tl:TE):TI:=fun σ H R=>tl σ H fun x H1=>∃a,x=.ref a∧(∃xs,eh K H1 a xs)∧R (Ib K a) H1
noncomputable def Ig(K:PySem.W.Frag)(tl:TE):TI:=fun σ H R=>tl σ H fun x H1=>∃a,x=.ref a∧(∃xs,ez K H1 a xs)∧R (JA K a) H1
theorem sx{l:Expr}{tl:TE}(hl:PE X l tl):PI X tg l (GJ X.K tl):=by
 intro pins s σ H R I h;refine bC (hl pins s σ H _ I h) fun v s1 ⟨x,H1,I1,r1,q1⟩=>?_
 obtain⟨a,e,⟨xs,hq⟩,q⟩:=q1
 subst e;cases r1;obtain⟨aq,rv,p,hz⟩:=I1.list hq
 refine wpAny_pyIter_list p.isList ?_;refine⟨s1.heap.objs.size,[s1.heap.objs.size],_,_,H1,rfl,I1.kept (t':=s1.toks) fun b o e=>Heap.get?_push_of_some _ e,uJ a _,⟨_,Heap.get?_push_size _ rfl,rfl,rfl⟩,fun b hb=>?_,q⟩
 have e:b=s1.heap.objs.size:=by simpa using hb
 subst e;exact I1.fpOk (Nat.le_refl _) (I1.hok.fresh (Nat.le_refl _))
theorem Cf{l:Expr}{tl:TE}(hl:PE X l tl):PI X tg l (Ig X.K tl):=by
 intro pins s σ H R I h;refine bC (hl pins s σ H _ I h) fun v s1 ⟨x,H1,I1,r1,q1⟩=>?_
 obtain⟨a,e,⟨xs,hq⟩,q⟩:=q1
 subst e;cases r1;obtain⟨aq,rv,p,hz⟩:=I1.tuple hq
 refine wpAny_pyIter_tuple (show s1.heap.IsTuple a aq.toArray from p) ?_;refine⟨s1.heap.objs.size,[s1.heap.objs.size],_,_,H1,rfl,I1.kept (t':=s1.toks) fun b o e=>Heap.get?_push_of_some _ e,ra a _,⟨_,Heap.get?_push_size _ rfl,rfl,rfl⟩,fun b hb=>?_,q⟩
 have e:b=s1.heap.objs.size:=by simpa using hb
 subst e;exact I1.fpOk (Nat.le_refl _) (I1.hok.fresh (Nat.le_refl _))
theorem pS{pins:List (Addr×Obj)}{σ:St}{H:Hp}{s:Shared}{R:It→Hp→Prop}{E:Value→Shared→Prop}{lo hi:Int}{t u v:Tok}{tk:Nat}(I:Inv X pins σ H s)(h1: -(2^62)≤lo)(h2:lo<2^62)(h3: -(2^62)≤hi)(h4:hi<2^62)
 (q:R (E6 lo (hi-lo).toNat) H):wpAny (model X.prog X.w) X.A (pyIter (.ref s.heap.objs.size)) (Ly X pins σ tg R) E {s with heap:=s.heap.push {cls:=.type "range",data:=.fields #[.int lo t,.int hi u,.int 1 v]},toks:=tk}:=by
 refine wpAny_pyIter_range (IsRange.new ..) (small_one h1 h2 h3 h4) ?_;have I1:Inv X pins σ H {s with heap:=s.heap.push {cls:=.type "range",data:=.fields #[.int lo t,.int hi u,.int 1 v]},toks:=tk}:=I.kept fun b o e=>Heap.get?_push_of_some _ e
 refine⟨(s.heap.push {cls:=.type "range",data:=.fields #[.int lo t,.int hi u,.int 1 v]}).objs.size,[(s.heap.push {cls:=.type "range",data:=.fields #[.int lo t,.int hi u,.int 1 v]}).objs.size],_,_,H,rfl,
  I1.kept (t':=tk) fun b o e=>Heap.get?_push_of_some _ e,rM _ lo (hi-lo).toNat,?_,fun b hb=>?_,q⟩
 ·have e1:lo+((0:Nat):Int)*1=lo:=by simp
  have e2:(((hi-lo).toNat:Nat):Int)-((0:Nat):Int)=Builtin.Range.rangeSize lo hi 1:=by rw [rangeSize_one];split<;>omega
  show IsRangeIter _ _ (lo+((0:Nat):Int)*1) ((((hi-lo).toNat:Nat):Int)-((0:Nat):Int)) 1
  rw [e1,e2];exact Heap.get?_push_size _ rfl
 ·have e:b=(s.heap.push {cls:=.type "range",data:=.fields #[.int lo t,.int hi u,.int 1 v]}).objs.size:=by simpa using hb
  subst e;exact I1.fpOk (Nat.le_refl _) (I1.hok.fresh (Nat.le_refl _))
def EK(ta:TA):TI:=fun σ H R=>ta σ H fun vs H1=>∃j:Int,vs=[.int j]∧ -(2^62)≤j∧j<2^62∧R (E6 0 j.toNat) H1
def FY(ta:TA):TI:=fun σ H R=>ta σ H fun vs H1=>∃i j:Int,vs=[.int i,.int j]∧(-(2^62)≤i∧i<2^62∧ -(2^62)≤j∧j<2^62)∧R (E6 i (j-i).toNat) H1
theorem uk{a:Expr}{ta:TA}{p pos:Pos}(hg:Gl X "range")(hm:X.mg "range"=none)(ha:PA X [a] ta)(hs:starEach [a] X.env=[(false,eval a X.env)]:=by rfl):PI X tg (.Call (.Name "range" p) [a] [] pos) (EK ta):=by
 intro pins s σ H R I h;refine Call_ (dJ I hg hm boot_range (PyProof.Rows.callWith_type1 (bC (ha pos pins s σ H _ I h) fun us s1 ⟨vs,H1,I1,r1,q1⟩=>?_) hs rfl))
 obtain⟨j,e,q1,q2,q⟩:=q1
 subst e;cases r1 with
 |cons r rr=>
  cases rr;obtain⟨t,rfl⟩:=r
  exact call_range_1 (pS I1 (by omega) (by omega) q1 q2 (by simpa using q))
theorem uC{a b:Expr}{ta:TA}{p pos:Pos}(hg:Gl X "range")(hm:X.mg "range"=none)(ha:PA X [a,b] ta)(hs:starEach [a,b] X.env=[(false,eval a X.env),(false,eval b X.env)]:=by rfl)(yk:starEach [b] X.env=[(false,eval b X.env)]:=by rfl):
 PI X tg (.Call (.Name "range" p) [a,b] [] pos) (FY ta):=by
 intro pins s σ H R I h;refine Call_ (dJ I hg hm boot_range (PyProof.Rows.callWith_type1 (bC (ha pos pins s σ H _ I h) fun us s1 ⟨vs,H1,I1,r1,q1⟩=>?_) (by rw [hs,yk]) (by rw [yk];rfl)))
 obtain⟨i,j,e,⟨q1,q2,q3,q4⟩,q⟩:=q1
 subst e;cases r1 with
 |cons r rr=>
  cases rr with
  |cons r' rr=>
   cases rr;obtain⟨t,rfl⟩:=r
   obtain⟨t',rfl⟩:=r'
   exact call_range_2 (pS I1 q1 q2 q3 q4 q)
noncomputable def IL(wi:TI)(g:TG)(tb:TS):TS:=fun D σ H=>wi σ H fun J H1=>∃W:Nat→Nat→St→Hp→Prop,(∃m,W 0 m σ H1)∧∀i m σ H,W i m σ H→
 (J.stop i H∧D.nx σ H)∨(J.go i H∧∃N:St→Hp→Prop,(∀σ' H',N σ' H'→∃m',m'<m∧W (i+1) m' σ' H')∧∀x H',J.yld i H x H'→g x σ H' fun σ2 H2=>tb {D with nx:=N,ct:=N,bk:=D.nx} σ2 H2)
def nA(fp:List Addr)(h:Heap):List (Addr×Obj):=fp.filterMap fun b=>(h.get? b).map fun o=>(b,o)
theorem cW{fp:List Addr}{h:Heap}{b:Addr}{o:Obj}(hb:b∈fp)(e:h.get? b=some o):(b,o)∈nA fp h:=List.mem_filterMap.mpr ⟨b,hb,by rw [e];rfl⟩
theorem ux{fp:List Addr}{h:Heap}{p:Addr×Obj}(hp:p∈nA fp h):p.1∈fp∧h.get? p.1=some p.2:=by
 obtain⟨b,hb,e⟩:=List.mem_filterMap.mp hp
 cases q:h.get? b with
 |none=>rw [q] at e;cases e
 |some o=>
  rw [q] at e;have e':(b,o)=p:=Option.some.inj e
  subst e';exact⟨hb,q⟩
theorem Inv.pinned{pins:List (Addr×Obj)}{σ:St}{H:Hp}{s:Shared}{fp:List Addr}(I:Inv X pins σ H s)(hf:∀b∈fp,du X pins H b)(ho:∀b∈fp,∃o,s.heap.get? b=some o∧∀v,o.data≠.cell v):Inv X (pins++nA fp s.heap) σ H s:=
 I.pins_of fun p hp=>(List.mem_append.mp hp).elim (fun z=>I.pin p (List.mem_append_right _ z)) fun z=>by
  obtain⟨hb,e⟩:=ux z
  obtain⟨f0,f1,f2,_⟩:=hf p.1 hb
  obtain⟨o,e',d⟩:=ho p.1 hb
  rw [e] at e';cases e';exact⟨e,f0,f1,f2,d⟩
theorem Inv.unpinned{pins pl:List (Addr×Obj)}{σ:St}{H:Hp}{s:Shared}(I:Inv X (pins++pl) σ H s):Inv X pins σ H s:=I.pins_of fun p hp=>I.pin p (List.mem_append_right _ (List.mem_append_left _ hp))
theorem Eg{iter:Expr}{body:List Stmt}{wi:TI}{g:TG}{tb:TS}{pos:Pos}(hp:PassesOwn (model X.prog X.w) X.A X.env X.xe)(hc:X.calm=true)(hi:PI X tg iter wi)(hg:PG X tg g)(hb:PSs X body tb)
 (hs:∀x,foldedSetIterable iter X.env x=pure x:=by intro _;rfl):PS X (.For tg iter body [] pos) (IL wi g tb):=by
 intro pins s σ H D I h;refine wpAny_For (bC (hi pins s σ H _ I h) fun v s1 h1=>bC h1 fun JT s2 h2=>?_) hs
 obtain⟨it,fp,tn,J,H2,e,I2,T,Io,f2,W,⟨m0,w0⟩,turn⟩:=h2
 subst e;have Dq:∀{H':Hp},(∀b∈fp,H' b=none)→∀b∈fp,du X pins H' b:=fun hn b hb=>⟨hn b hb,(f2 b hb).2⟩
 refine codeAny_forLoop_any (fun n s'=>∃i σ' H',Inv X pins σ' H' s'∧tn i s'.heap∧(∀b∈fp,H' b=none)∧W i n σ' H') ?_ m0 ⟨0,σ,H2,I2,Io,fun b hb=>(f2 b hb).1,w0⟩
 rintro n s3 ⟨i,σ3,H3,I3,st3,fr3,w3⟩
 rcases turn i n σ3 H3 w3 with⟨stop,qn⟩|⟨go,N,hN,step⟩
 ·refine wpAny_passesOwn hp (bC (T.done X rfl rfl rfl hc i pins s3 σ3 H3 X.xe I3 (Dq fr3) st3 stop) fun r s4 ⟨hr,I4⟩=>?_)
  subst hr;exact wpAny_execs_nil ⟨σ3,H3,I4,qn⟩
 ·refine wpAny_passesOwn hp (bC (T.item X rfl rfl rfl hc i pins s3 σ3 H3 X.xe I3 (Dq fr3) st3 go) fun r s4 ⟨u,hr,h4⟩=>?_)
  subst hr;refine wpAny_passesOwn hp (bC h4 fun _ s5 ⟨x,H5,I5,r5,y5,st5,fr5⟩=>?_);have Ir:=I5.pinned (Dq fr5) (T.obj _ _ st5)
  refine wpAny_passesOwn hp (bC (hg _ s5 σ3 H5 x u _ Ir r5 (step x H5 y5)) fun _ s6 ⟨σ6,H6,I6,q6⟩=>?_)
  refine wpAny_passesOwn hp (bC (hb _ s6 σ6 H6 _ I6 q6) fun f s7 q7=>?_)
  have again:∀{σ7:St} {H7:Hp},Inv X (pins++nA fp s5.heap) σ7 H7 s7→N σ7 H7→∃m,m<n∧∃i σ' H',Inv X pins σ' H' s7∧tn i s7.heap∧(∀b∈fp,H' b=none)∧W i m σ' H':=fun{σ7 H7} I7 n7=>by
   obtain⟨m',hm,w7⟩:=hN σ7 H7 n7
   refine⟨m',hm,i+1,σ7,H7,I7.unpinned,T.keep _ _ _ st5 fun b hb o e=>(I7.pin (b,o) (List.mem_append_right _ (List.mem_append_right _ (cW hb e)))).1,fun b hb=>?_,w7⟩
   obtain⟨o,e,d⟩:=T.obj _ _ st5 b hb
   exact(I7.pin (b,o) (List.mem_append_right _ (List.mem_append_right _ (cW hb e)))).2.1
  cases f with
  |next=>obtain⟨σ7,H7,I7,n7⟩:=q7;exact again I7 n7
  |cont=>obtain⟨σ7,H7,I7,n7⟩:=q7;exact again I7 n7
  |brk=>obtain⟨σ7,H7,I7,q7⟩:=q7;exact⟨σ7,H7,I7.unpinned,q7⟩
  |ret v=>obtain⟨x7,σ7,H7,I7,r7,q7⟩:=q7;exact⟨x7,σ7,H7,I7.unpinned,r7,q7⟩
end
end L2
namespace L2
open PySem PySem.Spec PyProof.Rows
abbrev R2:=V→V→Hp→VK→Prop
def eO(X:Cx)(f:Value→Value→Sem Value)(r:R2):Prop:=
 ∀(pins:List (Addr×Obj)) (s:Shared) (σ:St) (H:Hp) (x y:V) (v u:Value) (Q:VK),Inv X pins σ H s→RelV x v→RelV y u→r x y H Q→
  wpAny (model X.prog X.w) X.A (f v u) (EP X pins σ Q) X.xe s
def Ht(X:Cx)(f:Value→Sem Value)(r:V→Hp→VK→Prop):Prop:=
 ∀(pins:List (Addr×Obj)) (s:Shared) (σ:St) (H:Hp) (x:V) (v:Value) (Q:VK),Inv X pins σ H s→RelV x v→r x H Q→
  wpAny (model X.prog X.w) X.A (f v) (EP X pins σ Q) X.xe s
def b9(X:Cx)(f:Value)(r:List V→Hp→VK→Prop):Prop:=
 ∀(pins:List (Addr×Obj)) (s:Shared) (σ:St) (H:Hp) (xs:List V) (us:List Value) (Q:VK),Inv X pins σ H s→Vals xs us→r xs H Q→
  wpAny (model X.prog X.w) X.A (call f us) (EP X pins σ Q) X.xe s
noncomputable def EF(r:R2)(ta tb:TE):TE:=fun σ H Q=>ta σ H fun x H1=>tb σ H1 fun y H2=>r x y H2 Q
def NT(r:V→Hp→VK→Prop)(ta:TE):TE:=fun σ H Q=>ta σ H fun x H1=>r x H1 Q
noncomputable def rI(C:Int→Int→Prop)(g:Int→Int→V):R2:=fun x y H Q=>∃i j,x=.int i∧y=.int j∧C i j∧Q (g i j) H
noncomputable def By(g:Int→Int→V):R2:=fun x y H Q=>∃i j,x=.int i∧y=.int j∧Q (g i j) H
def rU(g:Int→V):V→Hp→VK→Prop:=fun x H Q=>∃i,x=.int i∧Q (g i) H
section
variable{X:Cx}{a b c:Expr}{ta tb tc:TE}{pos:Pos}
theorem D6(ha:PE X a ta)(hb:PE X b tb){pins:List (Addr×Obj)}{s:Shared}{σ:St}{H:Hp}{R:V→V→Hp→Prop}(I:Inv X pins σ H s)
 (h:ta σ H fun x H1=>tb σ H1 fun y H2=>R x y H2) {Q:Value→Shared→Prop} {f:Value→Value→Sem Value}
 (hf:∀v u s2 x y H2,Inv X pins σ H2 s2→RelV x v→RelV y u→R x y H2→wpAny (model X.prog X.w) X.A (f v u) Q X.xe s2):
 wpAny (model X.prog X.w) X.A (eval a X.env) (fun v s₁=>wpAny (model X.prog X.w) X.A (eval b X.env) (fun u s₂=>wpAny (model X.prog X.w) X.A (f v u) Q X.xe s₂) X.xe s₁) X.xe s:=by
 refine bC (ha pins s σ H _ I h) fun v s1 ⟨x,H1,I1,r1,q1⟩=>?_
 refine bC (hb pins s1 σ H1 _ I1 q1) fun u s2 ⟨y,H2,I2,r2,q2⟩=>?_
 exact hf v u s2 x y H2 I2 r1 r2 q2
theorem FR{op:Operator}{r:R2}(ho:eO X (binaryOp op) r)(ha:PE X a ta)(hb:PE X b tb):PE X (.BinOp a op b pos) (EF r ta tb):=by
 intro pins s σ H Q I h;exact wpAny_BinOp (D6 ha hb I h fun v u s2 x y H2 I2 rx ry q=>ho pins s2 σ H2 x y v u Q I2 rx ry q)
theorem Fw{op:UnaryOp}{r:V→Hp→VK→Prop}(ho:Ht X (unaryOp op) r)(ha:PE X a ta):PE X (.UnaryOp op a pos) (NT r ta):=by
 intro pins s σ H Q I h;exact UnaryOp_ (bC (ha pins s σ H _ I h) fun v s1 ⟨x,H1,I1,r1,q1⟩=>ho pins s1 σ H1 x v Q I1 r1 q1)
theorem JZ{f:Value→Value→Sem Value}{C:Int→Int→Prop}{g:Int→Int→Int}
 (rule:∀(i j:Int) (t u:Tok) (s:Shared) (Q:Value→Shared→Prop) (E:Value→Shared→Prop),C i j→Q (.int (g i j) s.toks) {s with toks:=s.toks+1}→wpAny (model X.prog X.w) X.A (f (.int i t) (.int j u)) Q E s):
 eO X f (rI C fun i j=>.int (g i j)):=by
 intro pins s σ H x y v u Q I rx ry h;obtain⟨i,j,rfl,rfl,hc,q⟩:=h
 obtain⟨t,rfl⟩:=rx
 obtain⟨t',rfl⟩:=ry
 exact rule i j t t' s _ _ hc ⟨.int (g i j),H,I.tok _,⟨_,rfl⟩,q⟩
theorem EY{f:Value→Value→Sem Value}{g:Int→Int→Int}
 (rule:∀(i j:Int) (t u:Tok) (s:Shared) (Q:Value→Shared→Prop) (E:Value→Shared→Prop),Q (.int (g i j) s.toks) {s with toks:=s.toks+1}→wpAny (model X.prog X.w) X.A (f (.int i t) (.int j u)) Q E s):
 eO X f (By fun i j=>.int (g i j)):=by
 intro pins s σ H x y v u Q I rx ry h;obtain⟨i,j,rfl,rfl,q⟩:=h
 obtain⟨t,rfl⟩:=rx
 obtain⟨t',rfl⟩:=ry
 exact rule i j t t' s _ _ ⟨.int (g i j),H,I.tok _,⟨_,rfl⟩,q⟩
theorem Aj{f:Value→Value→Sem Value}{g:Int→Int→Bool}
 (rule:∀(i j:Int) (t u:Tok) (s:Shared) (Q:Value→Shared→Prop) (E:Value→Shared→Prop),Q (.bool (g i j)) s→wpAny (model X.prog X.w) X.A (f (.int i t) (.int j u)) Q E s):
 eO X f (By fun i j=>.bl (g i j)):=by
 intro pins s σ H x y v u Q I rx ry h;obtain⟨i,j,rfl,rfl,q⟩:=h
 obtain⟨t,rfl⟩:=rx
 obtain⟨t',rfl⟩:=ry
 exact rule i j t t' s _ _ ⟨.bl (g i j),H,I,rfl,q⟩
def Jf(i j:Int):Prop:=0<j∧j<1073741824
def B4(i j:Int):Prop:=(-(2^64)<i∧i<2^64)∨(-(2^64)<j∧j<2^64)
theorem B4.ok{i j:Int}(h:B4 i j):IntMulOk i j:=by
 rcases h with⟨h1,h2⟩|⟨h1,h2⟩
 ·exact .of_left (intBits_le_64 h1 h2)
 ·exact .of_right (intBits_le_64 h1 h2)
theorem D9:eO X (binaryOp .Add) (By fun i j=>.int (i+j)):=EY fun _ _ _ _ _ _ _ q=>add_int q
theorem Dg:eO X (binaryOp .Sub) (By fun i j=>.int (i-j)):=EY fun _ _ _ _ _ _ _ q=>sub_int q
theorem Cy:eO X (binaryOp .Mult) (rI B4 fun i j=>.int (i*j)):=JZ fun _ _ _ _ _ _ _ hc q=>mul_int q hc.ok
theorem zf:eO X (binaryOp .FloorDiv) (rI Jf fun i j=>.int (i/j)):=JZ fun i j _ _ _ _ _ hc q=>by
 have h1:(0:Int)<j:=hc.1
 have h2:j<1073741824:=hc.2
 exact floordiv_int (by omega) (by rw [Int.fdiv_eq_ediv_of_nonneg i (by omega)];exact q) (.inl (PyProof.noPylong_small (by omega)))
theorem BM:eO X (binaryOp .Mod) (rI (fun _ j=>0<j) fun i j=>.int (i%j)):=JZ fun i j _ _ _ _ _ hc q=>by
 have h1:(0:Int)<j:=hc
 exact mod_int' (by omega) (by rw [Int.fmod_eq_emod_of_nonneg i (by omega)];exact q)
theorem N9{f:Value→Sem Value}{g:Int→Int}
 (rule:∀(i:Int) (t:Tok) (s:Shared) (Q:Value→Shared→Prop) (E:Value→Shared→Prop),Q (.int (g i) s.toks) {s with toks:=s.toks+1}→wpAny (model X.prog X.w) X.A (f (.int i t)) Q E s):
 Ht X f (rU fun i=>.int (g i)):=by
 intro pins s σ H x v Q I rx h;obtain⟨i,rfl,q⟩:=h
 obtain⟨t,rfl⟩:=rx
 exact rule i t s _ _ ⟨.int (g i),H,I.tok _,⟨_,rfl⟩,q⟩
theorem Ek:Ht X (unaryOp .USub) (rU fun i=>.int (-i)):=N9 fun _ _ _ _ _ q=>neg_int q
end
section
variable{X:Cx}{a b c:Expr}{ta tb tc:TE}{pos:Pos}
theorem qY{pins:List (Addr×Obj)}{σ:St}{H:Hp}{s:Shared}{Q:VK}{k k':Bool}(I:Inv X pins σ H s)(q:Q (.bl k) H)(e:k=k'):EP X pins σ Q (.bool k') s:=by
 subst e;exact⟨.bl k,H,I,rfl,q⟩
theorem GC:eO X (compareOp .Lt) (By fun i j=>.bl (decide (i<j))):=Aj fun _ _ _ _ _ _ _ q=>lt_int q
theorem GH:eO X (compareOp .LtE) (By fun i j=>.bl (decide (i≤j))):=Aj fun _ _ _ _ _ _ _ q=>le_int q
theorem ER:eO X (compareOp .Gt) (By fun i j=>.bl (decide (j<i))):=Aj fun _ _ _ _ _ _ _ q=>gt_int q
theorem G6:eO X (compareOp .GtE) (By fun i j=>.bl (decide (j≤i))):=Aj fun _ _ _ _ _ _ _ q=>ge_int q
theorem BY:eO X (compareOp .Is) (fun x y H Q=>y=.non∧Q (.bl (decide (x=.non))) H):=by
 intro pins s σ H x y v u Q I rx ry h;obtain⟨rfl,q⟩:=h
 cases ry;refine is_none_gen (qY I q ?_);cases x<;>first
  |(cases rx;rfl)
  |(obtain⟨t,rfl⟩:=rx;rfl)
theorem yD:eO X (compareOp .IsNot) (fun x y H Q=>y=.non∧Q (.bl (!decide (x=.non))) H):=by
 intro pins s σ H x y v u Q I rx ry h;obtain⟨rfl,q⟩:=h
 cases ry;refine isnot_none_gen (qY I q ?_);cases x<;>first
  |(cases rx;rfl)
  |(obtain⟨t,rfl⟩:=rx;rfl)
theorem HY(b:Expr){op:CmpOp}(h:op≠.In:=by decide)(h2:op≠.NotIn:=by decide):behindInMarks op b=false:=by
 have e1:(op==CmpOp.In)=false:=by cases op<;>first|rfl|exact absurd rfl h
 have e2:(op==CmpOp.NotIn)=false:=by cases op<;>first|rfl|exact absurd rfl h2
 cases b<;>simp [behindInMarks,e1,e2]
theorem zu{op:CmpOp}{r:R2}(ho:eO X (compareOp op) r)(ha:PE X a ta)(hb:PE X b tb)(hm:behindInMarks op b=false):PE X (.Compare a [op] [b] pos) (EF r ta tb):=by
 intro pins s σ H Q I h;exact wpAny_Compare1 (D6 ha hb I h fun v u s2 x y H2 I2 rx ry q=>ho pins s2 σ H2 x y v u Q I2 rx ry q) hm
def vA(t:TE):TT:=fun σ H Q=>t σ H fun x H'=>∃k,x=.bl k∧Q k H'
theorem zE{op:CmpOp}{r:R2}(ho:eO X (compareOp op) r)(ha:PE X a ta)(hb:PE X b tb)(hm:behindInMarks op b=false):PT X (.Compare a [op] [b] pos) (vA (EF r ta tb)):=by
 intro pins s σ H Q I h;refine wpAny_isTrue_Compare1 (bC (ha pins s σ H _ I h) fun v s1 ⟨x,H1,I1,r1,q1⟩=>bC (hb pins s1 σ H1 _ I1 q1) fun u s2 ⟨y,H2,I2,r2,q2⟩=>
  bC (ho pins s2 σ H2 x y v u _ I2 r1 r2 q2) fun c s3 ⟨z,H3,I3,r3,k,e,q3⟩=>?_) hm
 subst e;cases r3;exact wpAny_truthy_bool ⟨H3,I3,q3⟩
noncomputable def qN(r r':R2)(ta tb tc:TE):TE:=fun σ H Q=>ta σ H fun x H1=>tb σ H1 fun y H2=>r x y H2 fun z H3=>∃k,z=.bl k∧
 (if k=true then tc σ H3 fun w' H4=>r' y w' H4 Q else Q (.bl false) H3)
theorem xU{op BV:CmpOp}{r r':R2}(ho:eO X (compareOp op) r)(iA:eO X (compareOp BV) r')(ha:PE X a ta)(hb:PE X b tb)(hc:PE X c tc)
 (hm:lastMarks [op,BV] [b,c]=false:=by with_unfolding_all rfl):PE X (.Compare a [op,BV] [b,c] pos) (qN r r' ta tb tc):=by
 intro pins s σ H Q I h;refine Compare_chain (bC (ha pins s σ H _ I h) fun v s1 ⟨x,H1,I1,r1,q1⟩=>chain_link (bC (hb pins s1 σ H1 _ I1 q1) fun u s2 ⟨y,H2,I2,r2,q2⟩=>
  bC (ho pins s2 σ H2 x y v u _ I2 r1 r2 q2) fun d s3 ⟨z,H3,I3,r3,k,e,q3⟩=>?_)) hm
 subst e;cases r3;refine wpAny_truthy_bool ?_;cases k with
 |false=>exact ite_ff ⟨.bl false,H3,I3,rfl,q3⟩
 |true=>exact ite_tt (chain_last (bC (hc pins s3 σ H3 _ I3 q3) fun w' s4 ⟨z',H4,I4,r4,q4⟩=>iA pins s4 σ H4 y z' u w' Q I4 r2 r4 q4))
theorem wD{op BV:CmpOp}{r r':R2}(ho:eO X (compareOp op) r)(iA:eO X (compareOp BV) r')(ha:PE X a ta)(hb:PE X b tb)(hc:PE X c tc)
 (hm:lastMarks [op,BV] [b,c]=false:=by with_unfolding_all rfl):PT X (.Compare a [op,BV] [b,c] pos) (vA (qN r r' ta tb tc)):=by
 intro pins s σ H Q I h;refine isTrue_chain (bC (ha pins s σ H _ I h) fun v s1 ⟨x,H1,I1,r1,q1⟩=>test_link (bC (hb pins s1 σ H1 _ I1 q1) fun u s2 ⟨y,H2,I2,r2,q2⟩=>
  bC (ho pins s2 σ H2 x y v u _ I2 r1 r2 q2) fun d s3 ⟨z,H3,I3,r3,k,e,q3⟩=>?_)) hm
 subst e;cases r3;refine wpAny_truthy_bool ?_;cases k with
 |false=>
  obtain⟨k',e',q'⟩:=q3
  cases e';exact ite_ff ⟨H3,I3,q'⟩
 |true=>
  refine ite_tt (test_last (bC (hc pins s3 σ H3 _ I3 q3) fun w' s4 ⟨z',H4,I4,r4,q4⟩=>bC (iA pins s4 σ H4 y z' u w' _ I4 r2 r4 q4) fun d' s5 ⟨z2,H5,I5,r5,k2,e2,q5⟩=>?_))
  subst e2;cases r5;exact wpAny_truthy_bool ⟨H5,I5,q5⟩
theorem kH:(sizeLine:Nat)<2^63:=by rw [sizeLine_eq];decide
theorem rG:eO X (binaryOp .Add) (fun x y H Q=>∃i j,x=.str i∧y=.str j∧i.length+j.length≤sizeLine∧Q (.str (i++j)) H):=by
 intro pins s σ H x y v u Q I rx ry h;obtain⟨i,j,rfl,rfl,hz,q⟩:=h
 obtain⟨t,rfl⟩:=rx
 obtain⟨t',rfl⟩:=ry
 exact add_str (fun t' tk=>⟨.str (i++j),H,I.tok _,⟨_,rfl⟩,q⟩) hz
theorem vals1{x:V}{us:List Value}(r:Vals [x] us):∃u,us=[u]∧RelV x u:=by
 cases r with
 |cons r1 r2=>cases r2;exact⟨_,rfl,r1⟩
theorem vals2{x y:V}{us:List Value}(r:Vals [x,y] us):∃u w',us=[u,w']∧RelV x u∧RelV y w':=by
 cases r with
 |cons r1 r2=>
  cases r2 with
  |cons r3 r4=>cases r4;exact⟨_,_,rfl,r1,r3⟩
theorem vH:b9 X (.builtin "abs") (fun xs H Q=>∃i,xs=[.int i]∧Q (.int (if i<0 then -i else i)) H):=by
 intro pins s σ H xs us Q I r h;obtain⟨i,rfl,q⟩:=h
 obtain⟨u,rfl,t,rfl⟩:=vals1 r
 exact call_abs_int fun u tk=>⟨.int (if i<0 then -i else i),H,I.tok _,⟨_,rfl⟩,q⟩
theorem ua(hc:X.calm=true):b9 X (.builtin "max") (fun xs H Q=>∃i j,xs=[.int i,.int j]∧Q (.int (if j>i then j else i)) H):=by
 intro pins s σ H xs us Q I r h;obtain⟨i,j,rfl,q⟩:=h
 obtain⟨u,w',rfl,⟨t,rfl⟩,⟨t',rfl⟩⟩:=vals2 r
 refine max_two_ints (I.ok.hd hc) fun h' tk k=>⟨_,H,I.kept k,?_,q⟩
 by_cases hj:j>i
 ·rw [if_pos hj,if_pos hj];exact⟨_,rfl⟩
 ·rw [if_neg hj,if_neg hj];exact⟨_,rfl⟩
theorem nU:b9 X (.type "str") (fun xs H Q=>∃i,xs=[.int i]∧i.natAbs.log2<1920∧Q (.str (toString i)) H):=by
 intro pins s σ H xs us Q I r h;obtain⟨i,rfl,hz,q⟩:=h
 obtain⟨u,rfl,t,rfl⟩:=vals1 r
 exact PySem.P.str_of_int hz ⟨.str _,H,I.tok _,⟨_,rfl⟩,q⟩
end
end L2
namespace L2
open PySem PySem.Spec PyProof.Rows
section
variable{prog:Program}{w:World}{A:Around}{E:Value→Shared→Prop}{s:Shared}{K:PySem.W.Frag}{x dx C f:Addr}{mA:Str→Option Value}{name:Str}{v:Value}
end
theorem i9.some_of{v:V}{o:Option Value}(r:i9 (some v) o):∃u,o=some u∧RelV v u:=by
 cases o with
 |none=>exact(show False from r).elim
 |some u=>exact⟨u,rfl,r⟩
section
variable{P:Program}{w:World}{H H':Hp}{h h':Heap}{a C dx:Addr}{fs Jd:List (Str×V)}
end
section
variable{X:Cx}{pins:List (Addr×Obj)}{σ:St}{H:Hp}{s:Shared}{a C dx:Addr}{fs:List (Str×V)}{f:Str}{v:V}{A:Around}{E:Value→Shared→Prop}
end
section
variable{X:Cx}{o e value:Expr}{f:Str}{pos pos' iF:Pos}{ta tv:TE}
end
section
variable{X:Cx}{pins:List (Addr×Obj)}{σ:St}{H:Hp}{s:Shared}{A:Around}{E:Value→Shared→Prop}{Q:Value→Shared→Prop}{c:Value}{b:Bool}
end
end L2
namespace L2
open PySem PySem.Spec PyProof.Rows
structure df(k:Nat)(A:Around):Prop where
 hd:A.handled=none
 dp:A.depth+3*k+5<recursionLimit
 un:A.units+16*k+200<cLine
theorem df.mono{j k:Nat}{A:Around}(r:df k A)(h:j≤k):df j A:=⟨r.hd,by have:=r.dp;omega,by have:=r.un;omega⟩
theorem df.deeper{k:Nat}{A:Around}(r:df (k+1) A)(env:Env):df k (A.deeper env):=
 ⟨r.hd,by have:=r.dp;show A.depth+1+3*k+5<_;omega,by have:=r.un;show A.units+3+16*k+200<_;omega⟩
theorem df.in1{k:Nat}{A:Around}(r:df (k+1) A):df k A.in1:=
 ⟨r.hd,by have:=r.dp;show A.depth+3*k+5<_;omega,by have:=r.un;show A.units+1+16*k+200<_;omega⟩
theorem df.depth{k:Nat}{A:Around}(r:df k A):A.depth<recursionLimit:=by have:=r.dp;omega
theorem df.units{k:Nat}{A:Around}(r:df k A):A.units+64<cLine:=by have:=r.un;omega
def IJ:TA:=fun _ H Q=>Q [] H
def Hb(ta:TE)(tr:TA):TA:=fun σ H Q=>ta σ H fun x H1=>tr σ H1 fun xs H2=>Q (x::xs) H2
section
variable{X:Cx}{e:Expr}{es:List Expr}{te:TE}{t:TA}{pos:Pos}
theorem dg:PA X [] IJ:=fun _ _ _ _ H Q I h=>Calls.spliced_nil ⟨[],H,I,.nil,h⟩
theorem bO(ha:PE X e te)(hr:PA X es t)(hs:starEach (e::es) X.env=(false,eval e X.env)::starEach es X.env:=by rfl):PA X (e::es) (Hb te t):=by
 intro pos pins s σ H Q I h;rw [hs];show wpAny _ _ (spliced ((false,eval e X.env)::backTo pos (starEach es X.env))) _ _ s;refine Calls.spliced_cons (bC (ha pins s σ H _ I h) fun u s1 ⟨x,H1,I1,r1,q1⟩=>?_)
 exact bC (hr pos pins s1 σ H1 _ I1 q1) fun us s2 ⟨xs,H2,I2,r2,q2⟩=>⟨x::xs,H2,I2,.cons r1 r2,q2⟩
def Kh(t:TA):TE:=fun σ H Q=>t σ H fun xs H1=>xs.length≤sizeLine∧∀p,H1 p=none→Q (.ref p) (upd H1 p (.tup xs))
def Ki(t:TA):TE:=fun σ H Q=>t σ H fun xs H1=>xs.length≤sizeLine∧∀p,H1 p=none→Q (.ref p) (upd H1 p (.lst xs))
theorem Dl{x1}(h:PA X es t):PE X (.Tuple es x1 pos) (Kh t):=by
 intro pins s σ H Q I hq;refine wpAny_Tuple_spliced (bC (h pos pins s σ H _ I hq) fun us s1 ⟨xs,H1,I1,r,z,q⟩=>⟨by rw [←r.length];exact z,?_⟩)
 have hf:H1 s1.heap.objs.size=none:=I1.hok.fresh (Nat.le_refl _)
 refine⟨.ref s1.heap.objs.size,upd H1 s1.heap.objs.size (.tup xs),I1.laid (t':=s1.toks) (fun b u e=>Heap.get?_push_of_some _ e) (Nat.le_refl _) ?_,rfl,q _ hf⟩;exact⟨z,us,r,⟨_,Heap.get?_push_size _ rfl,rfl,_,rfl⟩⟩
theorem BG(h:PA X es t):PE X (.List es pos) (Ki t):=by
 intro pins s σ H Q I hq;refine wpAny_List_spliced (bC (h pos pins s σ H _ I hq) fun us s1 ⟨xs,H1,I1,r,z,q⟩=>⟨by rw [←r.length];exact z,?_⟩)
 have hf:H1 s1.heap.objs.size=none:=I1.hok.fresh (Nat.le_refl _)
 refine⟨.ref s1.heap.objs.size,upd H1 s1.heap.objs.size (.lst xs),I1.laid (t':=s1.toks) (fun b u e=>Heap.get?_push_of_some _ e) (Nat.le_refl _) ?_,rfl,q _ hf⟩;exact⟨z,us,0,r,Heap.get?_push_size _ rfl⟩
end
abbrev Sp:=List V→Hp→VK→XK→Prop
abbrev qe:=List Env→Hp→Shared→XK→Value→Shared→Prop
structure iu(P:Program)(w:World)(K:PySem.W.Frag)(mg:Str→Option Value)(base:Heap)(A:Around)(outer:List Env)(s:Shared)(H:Hp):Prop where
 frames:A.frames=some outer
 mod:Mod K mg base
 bs:∀b o,base.get? b=some o→s.heap.get? b=some o∧H b=none
 bsz:base.objs.size≤s.heap.objs.size
 funs:s.heap.FunFrames base outer
 frf:∀b∈d0 outer,H b=none
 hok:dN P w H s.heap
 bare:AllBare s.gens
def CE(outer:List Env)(P:Program)(w:World)(H:Hp)(s:Shared)(Q:VK)(u:Value)(s':Shared):Prop:=
 ∃v H',s'.os=s.os∧AllBare s'.gens∧Un (d0 outer) [] H H' s.heap s'.heap∧dN P w H' s'.heap∧RelV v u∧Q v H'
def CR(CX:qe)(outer:List Env)(P:Program)(w:World)(H:Hp)(s:Shared)(Q:VK)(E:XK)(r:Result)(s':Shared):Prop:=
 match r with
 |.ok (.ret u)=>CE outer P w H s Q u s'
 |.ok _=>False
 |.error e=>CX outer H s E e s'
structure fj(P:Program)(w:World)(K:PySem.W.Frag)(mg:Str→Option Value)(base:Heap)(CX:qe)(k:Nat)(f:Addr)(fd:FuncData)(ps:List Str)(sp:Sp):Prop where
 len:∀vs H Q E,sp vs H Q E→vs.length=ps.length
 run:∀(A:Around) (outer:List Env) (s:Shared) (H:Hp) (args:Args) (us:List Value) (vs:List V) (Q:VK) (E:XK),df k A→iu P w K mg base A outer s H→BindsTo s fd args (ps.zip us)→Vals vs us→sp vs H Q E→
  codeAny (model P w) A (.call (.ref f) args) (CR CX outer P w H s Q E) s
theorem fj.mono{P:Program}{w:World}{K:PySem.W.Frag}{mg:Str→Option Value}{base:Heap}{CX:qe}{j k:Nat}{f:Addr}{fd:FuncData}{ps:List Str}{sp:Sp}(F:fj P w K mg base CX j f fd ps sp)(h:j≤k):
 fj P w K mg base CX k f fd ps sp:=⟨F.len,fun A outer s H args us vs Q E hr=>F.run A outer s H args us vs Q E (hr.mono h)⟩
theorem fj.imp{P:Program}{w:World}{K:PySem.W.Frag}{mg:Str→Option Value}{base:Heap}{CX:qe}{k:Nat}{f:Addr}{fd:FuncData}{ps:List Str}{sp LM:Sp}(F:fj P w K mg base CX k f fd ps sp)
 (h:∀vs H Q E,LM vs H Q E→sp vs H Q E):fj P w K mg base CX k f fd ps LM:=
 ⟨fun vs H Q E q=>F.len vs H Q E (h _ _ _ _ q),fun A outer s H args us vs Q E hr he hb hv hs=>F.run A outer s H args us vs Q E hr he hb hv (h _ _ _ _ hs)⟩
theorem iu.in1{P:Program}{w:World}{K:PySem.W.Frag}{mg:Str→Option Value}{base:Heap}{A:Around}{outer:List Env}{s:Shared}{H:Hp}(e:iu P w K mg base A outer s H):
 iu P w K mg base A.in1 outer s H:=⟨e.frames,e.mod,e.bs,e.bsz,e.funs,e.frf,e.hok,e.bare⟩
section
variable{X:Cx}{pins:List (Addr×Obj)}{σ:St}{H:Hp}{s s':Shared}
theorem Inv.env0(I:Inv X pins σ H s):iu X.prog X.w X.K X.mg X.base X.A X.stack s H:=
 ⟨I.ok.frames,I.ok.mod,I.bs,Nat.le_trans I.ok.bsz I.sz,I.stack,I.stkFree,I.hok,I.bare⟩
theorem Inv.after{Q:VK}{u:Value}(I:Inv X pins σ H s)(h:CE X.stack X.prog X.w H s Q u s'):EP X pins σ Q u s':=by
 obtain⟨v,H',os,bare,un,hok,r,q⟩:=h
 obtain⟨hh,g,d,t,os'⟩:=s'
 obtain rfl:os'=s.os:=os
 exact⟨v,H',I.call (h':=hh) (g':=g) (d':=d) (t':=t) (ch:=[]) un hok bare (fun b z=>absurd z (by simp)),r,q⟩
end
def Binds(K:PySem.W.Frag)(fd:FuncData)(ps:List Str)(ds:List Value):Prop:=
 ∀(s:Shared) (us:List Value),K.In s.heap→(us++ds).length=ps.length→BindsTo s fd ⟨us,[]⟩ (ps.zip (us++ds))
theorem Binds.all{K:PySem.W.Frag}{fd:FuncData}{ps:List Str}(h:∀us:List Value,us.length=ps.length→bindArgs fd ⟨us,[]⟩=pure (ps.zip us)):Binds K fd ps []:=fun s us _ hl=>by
 rw [List.append_nil] at hl⊢;exact .of_eq (h us hl)
def Passes(CX:qe)(X:Cx)(E:XK):Prop:=∀(pins:List (Addr×Obj)) (σ:St) (H:Hp) (s:Shared) (e:Value) (s':Shared),Inv X pins σ H s→CX X.stack H s E e s'→X.xe e s'
section
variable{X:Cx}{CX:qe}{k:Nat}{f C:Addr}{fd:FuncData}{ps:List Str}{sp:Sp}{Ma:List V}{ds:List Value}{E:XK}{x m:Str}{p pos apos:Pos}{e o:Expr}{es:List Expr}{ta:TE}{t:TA}
end
section
variable{X:Cx}{CX:qe}{k:Nat}{f C:Addr}{fd:FuncData}{ps ks:List Str}{sp:Sp}{E:XK}{x m:Str}{p pos apos J5:Pos}{e o:Expr}{es:List Expr}{iQ:List Keyword}{te ta:TE}{t tk:TA}{nm:Option Str}
variable{g:List Value→List Value→List Value}{gV:List V→List V→List V}
end
structure jj(N P:List Str)(sc:Scope):Prop where
 kind:sc.kind=.function
 co:sc.isCoroutine=false
 gen:sc.isGenerator=false
 nd:N.Nodup
 pre:N.take P.length=P
 par:∀x∈P,sc.names.lookup x=some .local∨sc.names.lookup x=some .cell
 nofree:∀y∈sc.names,y.2≠.free
theorem lF{kindOf:Str→Option NameKind}{x:Str}:∀{binds:List (Str×Value)} {m:Str→Option Value},(∀v,(x,v)∉binds)→bindL kindOf binds m x=m x
 |[],_,_=>rfl
 |(n,v)::r,m,h=>by
  unfold bindL;rw [lF fun w hw=>h w (List.mem_cons_of_mem _ hw)]
  split
  ·have:x≠n:=by rintro rfl;exact h v List.mem_cons_self
   simp [this]
  ·rfl
theorem mi{kindOf:Str→Option NameKind}{x:Str}:∀{binds:List (Str×Value)} {m:Str→Option Value},(∀v,(x,v)∉binds)→bindC kindOf binds m x=m x
 |[],_,_=>rfl
 |(n,v)::r,m,h=>by
  unfold bindC;rw [mi fun w hw=>h w (List.mem_cons_of_mem _ hw)]
  split
  ·rfl
  ·have:x≠n:=by rintro rfl;exact h v List.mem_cons_self
   simp [this]
theorem lG{kindOf:Str→Option NameKind}{x:Str}{v:Value}:∀{P:List Str} {vs:List Value} {i:Nat} {m:Str→Option Value},P.Nodup→P[i]?=some x→vs[i]?=some v→kindOf x=some .local→
 bindL kindOf (P.zip vs) m x=some v
 |[],_,_,_,_,h,_,_=>by simp at h
 |_::_,[],_,_,_,_,h,_=>by simp at h
 |p::P,w::vs,0,m,nd,h1,h2,hk=>by
  simp at h1 h2;subst h1;subst h2;show bindL kindOf ((p,w)::P.zip vs) m p=_
  unfold bindL;rw [lF fun v hv=>(List.nodup_cons.mp nd).1 (List.of_mem_zip hv).1,if_pos hk]
  simp
 |p::P,w::vs,i+1,m,nd,h1,h2,hk=>by
  show bindL kindOf ((p,w)::P.zip vs) m x=_
  unfold bindL;exact lG (i:=i) (List.nodup_cons.mp nd).2 (by simpa using h1) (by simpa using h2) hk
theorem mz{kindOf:Str→Option NameKind}{x:Str}{v:Value}:∀{P:List Str} {vs:List Value} {i:Nat} {m:Str→Option Value},P.Nodup→P[i]?=some x→vs[i]?=some v→kindOf x≠some .local→
 bindC kindOf (P.zip vs) m x=some v
 |[],_,_,_,_,h,_,_=>by simp at h
 |_::_,[],_,_,_,_,h,_=>by simp at h
 |p::P,w::vs,0,m,nd,h1,h2,hk=>by
  simp at h1 h2;subst h1;subst h2;show bindC kindOf ((p,w)::P.zip vs) m p=_
  unfold bindC;rw [mi fun v hv=>(List.nodup_cons.mp nd).1 (List.of_mem_zip hv).1,if_neg hk]
  simp
 |p::P,w::vs,i+1,m,nd,h1,h2,hk=>by
  show bindC kindOf ((p,w)::P.zip vs) m x=_
  unfold bindC;exact mz (i:=i) (List.nodup_cons.mp nd).2 (by simpa using h1) (by simpa using h2) hk
def start(N:List Str)(vs:List V):St:=vs.map some++List.replicate (N.length-vs.length) none
noncomputable def dk(CX:qe)(P:Program)(w:World)(K:PySem.W.Frag)(mg:Str→Option Value)(base:Heap)(N:List Str)(qual:Str)(scope:Scope)(f:Addr)(cd:Value)(A:Around)(outer:List Env)(s:Shared)(H:Hp)(E:XK):Cx where
 prog:=P
 w:=w
 K:=K
 mg:=mg
 base:=base
 A:=A.deeper (envOfC qual scope s.heap.objs.size f cd)
 N:=N
 s₀:=s
 H₀:=H
 env:=envOfC qual scope s.heap.objs.size f cd
 outer:=outer
 stack:=envOfC qual scope s.heap.objs.size f cd::outer
 ex:=[]
 calm:=true
 fn:=fun _=>true
 pn:=[]
 xe:=fun e s'=>wpAny (model P w) (A.deeper (envOfC qual scope s.heap.objs.size f cd)) (leaving (envOfC qual scope s.heap.objs.size f cd) e) (fun _ Aa=>CX outer H s E e Aa) (fun e' Aa=>CX outer H s E e' Aa) s'
theorem pf{sc:Scope}{n:Nat}{x:Str}(h:sc.names.lookup x=some .cell):∃c,(cellsFrom n sc.names []).lookup x=some c:=by
 have q:=PySem.W.cellsFrom_some sc.names n [] (.inl h)
 exact Option.isSome_iff_exists.mp q
theorem uL{CX:qe}{P:Program}{w:World}{K:PySem.W.Frag}{mg:Str→Option Value}{base:Heap}{N ps:List Str}{qual:Str}{scope:Scope}{f:Addr}{cd:Value}{A:Around}{outer:List Env}{s s1:Shared}{H:Hp}{E:XK}{us:List Value}{vs:List V}
 (S:jj N ps scope) (hd:A.handled=none) (e0:iu P w K mg base A outer s H) (hl:vs.length=ps.length) (r:Vals vs us)
 (x:InCallC s s.heap.objs.size (bindL (envOfC qual scope s.heap.objs.size f cd).kindOf (ps.zip us) fun _=>none) (cellsFrom (s.heap.objs.size+1) scope.names []) (bindC (envOfC qual scope s.heap.objs.size f cd).kindOf (ps.zip us) fun _=>none) s1):
 Inv (dk CX P w K mg base N qual scope f cd A outer s H E) [] (start N vs) H s1:=by
 have hpl:ps.length≤N.length:=by have:=congrArg List.length S.pre;rw [List.length_take] at this;omega
 obtain⟨h1,tk,rfl,hk⟩:=x.done
 have yL:∀b:Addr,b∉(dk CX P w K mg base N qual scope f cd A outer s H E).ex:=fun b z=>absurd (show b∈([]:List Addr) from z) (by simp)
 refine⟨⟨e0.mod,S.kind,rfl,rfl,Nat.le_refl _,fun y z c h1 h2=>?_,fun y hy=>?_,fun y c _ h=>?_,fun _=>hd,Around.frames_deeper e0.frames,.inr ⟨rfl,rfl⟩,fun b z=>absurd z (yL b),e0.bs,e0.bsz,fun b _ _=>yL b,fun b z=>absurd z (yL b),e0.funs,e0.frf⟩,
  rfl,e0.bare,Un.kept hk,⟨_,x.toInCall.ns,fun i y v h1 h2 h3=>?_⟩,fun y c h=>⟨_,x.cell y c h⟩,e0.hok.fresh (Nat.le_refl _),fun y c h=>?_,fun p hp=>absurd (show p∈([]:List (Addr×Obj)) from hp) (by simp),e0.hok.kept hk,?_⟩
 ·exact name_of_addr x.apart (PySem.mem_of_lookup h1) (PySem.mem_of_lookup h2)
 ·have hy:scope.names.lookup y=some .cell∨scope.names.lookup y=some .free:=hy
  rcases hy with hy|hy
  ·exact pf hy
  ·exact absurd rfl (S.nofree _ (PySem.mem_of_lookup hy))
 ·exact Nat.le_of_lt (x.above y c (PySem.mem_of_lookup h))
 ·have hi:i<vs.length:=by
   unfold start at h2
   by_cases hi:i<vs.length
   ·exact hi
   ·rw [List.getElem?_append_right (by simpa using hi)] at h2;rw [List.getElem?_replicate] at h2;split at h2<;>cases h2
  have ha:vs[i]?=some v:=by
   unfold start at h2;rw [List.getElem?_append_left (by simpa using hi),List.getElem?_map] at h2;cases e:vs[i]? with
   |none=>rw [e] at h2;cases h2
   |some a=>rw [e] at h2;cases h2;rfl
  obtain⟨u,hu,rv⟩:=r.get ha
  have hp:ps[i]?=some y:=by
   rw [←S.pre,List.getElem?_take_of_lt (by omega)];exact h1
  have Lw:ps.Nodup:=by rw [←S.pre];exact S.nd.sublist (List.take_sublist _ _)
  refine⟨u,rv,?_⟩;rcases S.par y (List.mem_of_getElem? hp) with k|k
  ·exact .inl ⟨k,lG Lw hp hu k⟩
  ·obtain⟨c,e⟩:=pf (n:=s.heap.objs.size+1) k
   refine .inr ⟨.inl k,c,e,?_⟩;have q:=x.cell y c e
   rw [mz Lw hp hu (by show scope.names.lookup y≠_;rw [k];decide)] at q;exact q
 ·exact e0.hok.fresh (Nat.le_of_lt (x.above y c (PySem.mem_of_lookup h)))
 ·unfold start;show _=N.length
  rw [List.length_append,List.length_map,List.length_replicate];omega
theorem Gg{CX:qe}{P:Program}{w:World}{K:PySem.W.Frag}{mg:Str→Option Value}{base:Heap}{k:Nat}{f:Addr}{name qual:Str}{params:Arguments}{body:List Stmt}{scope:Scope}{dV kV doc pm e9 ct oc:Value}{an od:Option Addr}
 {qB:Array (Option Value)} {N ps:List Str} {sp:Sp} (lk:K.lookup f=some ⟨oc,od,.func (PySem.W.fnOf name qual params body scope dV kV doc pm an e9 ct),qB⟩) (rf:PySem.W.codeIn K e9 qual=true) (S:jj N ps scope)
 (len:∀vs H Q E,sp vs H Q E→vs.length=ps.length)
 (GG:∀(A:Around) (outer:List Env) (s:Shared) (H:Hp) (vs:List V) (Q:VK) (E:XK),df k (A.deeper (envOfC qual scope s.heap.objs.size f e9))→sp vs H Q E→
  ∃t,PSs (dk CX P w K mg base N qual scope f e9 A outer s H E) body t∧t {nx:=fun _ H'=>Q .non H',rt:=Q} (start N vs) H):
 fj P w K mg base CX (k+1) f (PySem.W.fnOf name qual params body scope dV kV doc pm an e9 ct) ps sp:=by
 refine⟨len,fun A outer s H args us vs Q E hr e0 hb r Ey=>?_⟩
 have hl:=len _ _ _ _ Ey
 have KX:K.In s.heap:=e0.mod.kin.keeps fun b o e=>(e0.bs b o e).1
 have lim:s.heap.NoLimit:=e0.mod.nolimit.keeps fun b o e=>(e0.bs b o e).1
 have Fc:∀y∈ps.zip us,scope.names.lookup y.1=some .local∨(scope.names.lookup y.1=some .cell∧((cellsFrom (s.heap.objs.size+1) scope.names []).lookup y.1).isSome=true):=fun⟨n,v⟩ hy=>by
  rcases S.par n (List.of_mem_zip hy).1 with q|q
  ·exact .inl q
  ·exact .inr ⟨q,PySem.W.cellsFrom_some _ _ _ (.inl q)⟩
 refine codeAny_call_function hr.depth (KX _ _ lk) rfl S.co S.gen rfl (PySem.W.codeRec_of KX rf) (hb _ _ _ _ ?_);refine wpAny_newFunctionEnv_cells S.kind Fc fun env he s1 x=>?_
 subst he;refine⟨lim.keeps x.toInCall.keep,codeAny_func ?_⟩;obtain⟨t,ht,hq⟩:=GG A outer s H vs Q E (hr.deeper _) Ey
 have I:Inv (dk CX P w K mg base N qual scope f e9 A outer s H E) [] (start N vs) H s1:=uL S hr.hd e0 hl r x
 refine wpAny_mono (ht [] s1 (start N vs) H _ I hq) (fun fl s' hs=>?_) fun e s' hs=>hs
 have fin:∀{σ':St} {H':Hp} {v:V} {u:Value},Inv (dk CX P w K mg base N qual scope f e9 A outer s H E) [] σ' H' s'→RelV v u→Q v H'→CE outer P w H s Q u s':=
  fun{σ' H' v u} J rv q=>⟨v,H',J.os,J.bare,J.base,J.hok,rv,q⟩
 cases fl with
 |ret u=>
  obtain⟨v,σ',H',J,rv,q⟩:=hs
  exact fin J rv q
 |next=>
  obtain⟨σ',H',J,q⟩:=hs
  exact fin (v:=V.non) (u:=Value.none) J rfl q
 |brk=>
  obtain⟨_,_,_,q⟩:=hs
  exact False.elim q
 |cont=>
  obtain⟨_,_,_,q⟩:=hs
  exact False.elim q
end L2
namespace L2
open PySem PySem.Spec PyProof.Rows
section
variable{X:Cx}{x:Str}{p pos:Pos}{e:Expr}{es:List Expr}{t:TA}{id T:String}{r:List V→Hp→VK→Prop}
def HC(r:List V→Hp→VK→Prop)(t:TA):TE:=fun σ H Q=>t σ H fun vs H1=>r vs H1 Q
theorem dH(hc:b9 X (.builtin id) r)(hg:Gl X x)(hm:X.mg x=none)(hv:bootBuiltins x=some (.builtin id))(ha:PA X (e::es) t)(hn:x≠"__name__":=by decide)(GD:(x==("__debug__":Str))=false:=by decide)
 (he:starEach (e::es) X.env=(false,eval e X.env)::starEach es X.env:=by rfl) (hpl:(backTo pos (starEach es X.env)).any (·.1)=false:=by rfl):PE X (.Call (.Name x p) (e::es) [] pos) (HC r t):=by
 intro pins s σ H Q I h;refine wpAny_Call_Name_kw (dJ I hg hm hv ?_ hn GD);exact PyProof.Rows.callWith_builtin1 (bC (ha pos pins s σ H _ I h) fun us s1 ⟨vs,H1,I1,r1,q1⟩=>hc pins s1 σ H1 vs us Q I1 r1 q1) he hpl
theorem iH(hc:b9 X (.type T) r)(hg:Gl X x)(hm:X.mg x=none)(hv:bootBuiltins x=some (.type T))(ha:PA X (e::es) t)(hn:x≠"__name__":=by decide)(GD:(x==("__debug__":Str))=false:=by decide)
 (he:starEach (e::es) X.env=(false,eval e X.env)::starEach es X.env:=by rfl) (hpl:(backTo pos (starEach es X.env)).any (·.1)=false:=by rfl):PE X (.Call (.Name x p) (e::es) [] pos) (HC r t):=by
 intro pins s σ H Q I h;refine wpAny_Call_Name_kw (dJ I hg hm hv ?_ hn GD);exact PyProof.Rows.callWith_type1 (bC (ha pos pins s σ H _ I h) fun us s1 ⟨vs,H1,I1,r1,q1⟩=>hc pins s1 σ H1 vs us Q I1 r1 q1) he hpl
end
end L2
namespace HT
open PySem PyProof.Rows
def lexLt:List Int→List Int→Bool
 |[],[]=>false
 |[],_::_=>true
 |_::_,[]=>false
 |x::xs,y::ys=>if x=y then lexLt xs ys else decide (x<y)
theorem lexLt_cons(x y:Int)(xs ys:List Int):lexLt (x::xs) (y::ys)=if x=y then lexLt xs ys else decide (x<y):=rfl
theorem lexLt_nil_nil:lexLt [] []=false:=rfl
theorem kc(y:Int)(ys:List Int):lexLt [] (y::ys)=true:=rfl
theorem j3(x:Int)(xs:List Int):lexLt (x::xs) []=false:=rfl
theorem wQ(A:Around)(s:Shared)(a:Int)(t:Tok)(c:Int)(u:Tok):∃e,SeqAt.EqAt A s (.int a t) (.int c u) e∧(e=true↔a=c):=
 ⟨(a==c),SeqAt.EqAt.int_int a t c u,by simp⟩
theorem xK(A:Around)(s:Shared)(a:Int)(t:Tok)(c:Int)(u:Tok)(prog:Program)(w:World)(E:Value→Shared→Prop)(Q:Value→Shared→Prop)(h:Q (.bool (decide (a<c))) s):
 wpAny (model prog w) A (richCompare .Lt (.int a t) (.int c u)) Q E s:=
 (PyProof.Rows.lt_int h:wpAny (model prog w) A (compareOp .Lt (.int a t) (.int c u)) Q E s)
section
open PySem.SeqAt
open PySem.AutoSeq1 (wpAny_loadPart')
open PySem.MeetsSeq PySem.MeetsSeq2 PySem.MeetsSeq3
theorem k7(l b:Addr)(items ee:Array Value)(n n2:Nat)(dd Jx:Option Addr)(sl EU:Array (Option Value))(ns ms:List Int)(hi:IntsAre items.toList ns)(hj:IntsAre ee.toList ms):
 Meets (Builtin.«tuple.__lt__» ⟨[.ref l,.ref b],[]⟩)
  (fun _ R s=>s.heap.get? l=some {cls:=.type "tuple",dict:=dd,data:=.seq items n,slots:=sl}∧s.heap.get? b=some {cls:=.type "tuple",dict:=Jx,data:=.seq ee n2,slots:=EU}∧
   R (.ok (.ret (.bool (lexLt ns ms)))) s):=
 .of_wp fun prog w A R s h=>by
  obtain⟨hp,g,d,tk,os⟩:=s;obtain⟨hl,hb,h⟩:=h
  have f2:=AutoSeq1.sub_tuple_tuple
  have z1:items.size=ns.length:=by rw [←hi.length];simp
  have z2:ee.size=ms.length:=by rw [←hj.length];simp
  wp_walk using wpAny_loadPart' hl,wpAny_loadPart' hb,wpAny_forIn_list _ (fun rest b s'=>b.1=none∧s'=⟨hp,g,d,tk,os⟩∧∃(vs ws:List Value) (Cd EI:List Int),rest=vs.zip ws∧
   IntsAre vs Cd∧IntsAre ws EI∧Cd.length+ee.size=EI.length+items.size∧R (.ok (.ret (.bool (lexLt Cd EI)))) ⟨hp,g,d,tk,os⟩) _
  case turn=>
   rintro ⟨y,x⟩ rest b s' ⟨gL,rfl,vs,ws,Cd,EI,hz,F4,hwi,hlen,hR⟩
   cases F4 with
   |nil=>rw [List.zip_nil_left] at hz;cases hz
   |cons a t hvi'=>
    cases hwi with
    |nil=>rw [List.zip_nil_right] at hz;cases hz
    |cons c u hwi'=>
     rw [List.zip_cons_cons] at hz
     injection hz with hyx hrest
     injection hyx with hy hx
     subst hy hx;rw [lexLt_cons] at hR;simp only [List.length_cons] at hlen;obtain⟨e,he,hiff⟩:=wQ A.in1 ⟨hp,g,d,tk,os⟩ a t c u
     refine wpAny_bind (he prog w _ _ ?_);cases e with
     |true=>
      rw [if_pos (hiff.mp rfl)] at hR
      wp_walk
      exact⟨rfl,rfl,_,_,_,_,hrest,hvi',hwi',by omega,hR⟩
     |false=>
      rw [if_neg (fun q=>absurd (hiff.mpr q) zzf)] at hR
      have Oc:=xK A.in1 ⟨hp,g,d,tk,os⟩ a t c u prog w
      wp_walk using Oc
      exact⟨_,rfl,by simpa using hR⟩
  case fin=>
   rintro ⟨b1,b2⟩ s' ⟨gL,rfl,vs,ws,Cd,EI,hz,F4,hwi,hlen,hR⟩
   simp only at gL;subst gL;have hv:lexLt Cd EI=decide (items.size<ee.size):=by
    cases F4 with
    |nil=>
     cases hwi with
     |nil=>
      simp only [List.length_nil] at hlen;rw [lexLt_nil_nil];exact(decide_eq_false (by omega)).symm
     |cons c u hw=>
      simp only [List.length_nil,List.length_cons] at hlen;rw [kc];exact(decide_eq_true (by omega)).symm
    |cons a t hv=>
     cases hwi with
     |nil=>
      simp only [List.length_nil,List.length_cons] at hlen;rw [j3];exact(decide_eq_false (by omega)).symm
     |cons c u hw=>
      rw [List.zip_cons_cons] at hz;cases hz
   rw [hv] at hR
   wp_walk
   exact⟨_,rfl,by simpa [Builtin.Tuple.tupleCompareSizes] using hR⟩
  case h=>
   exact⟨rfl,rfl,items.toList,ee.toList,ns,ms,rfl,hi,hj,by omega,h⟩
end
section
variable{prog:Program}{w:World}{A:Around}{E:Value→Shared→Prop}{s:Shared}
theorem lt_tupInts{l b:Addr}{items ee:Array Value}{ns ms:List Int}{Q:Value→Shared→Prop}(hl:IsTup s.heap l items)(hb:IsTup s.heap b ee)(hi:IntsAre items.toList ns)(hj:IntsAre ee.toList ms)
 (hu:A.units<cLine) (h:Q (.bool (lexLt ns ms)) s):wpAny (model prog w) A (compareOp .Lt (.ref l) (.ref b)) Q E s:=by
 obtain⟨⟨cls,dd,data,sl⟩,ho,hc,n,hd⟩:=id hl
 obtain⟨⟨cls2,Jx,data2,EU⟩,Dj,hc2,n2,hd2⟩:=id hb
 simp only at hc hd hc2 hd2;subst hc hd hc2 hd2;exact richCompare_meets_room (op:=.Lt) ⟨_,ho,rfl⟩ ⟨_,Dj,rfl⟩ PySem.F.slot_tuple_lt PySem.F.entry_tuple_lt (PySem.F.args_tuple_lt_2 _ _) (k7 l b items ee n n2 dd Jx sl EU ns ms hi hj)
  ⟨ho,Dj,show Value.bool (lexLt ns ms)≠Value.notImplemented∧Q (.bool (lexLt ns ms)) s from⟨(fun x=>nomatch x),h⟩⟩ hu
def sIx(n d:Nat):Option Int→Nat
 |none=>d
 |some v=>if v<0 then(v+(n:Int)).toNat else min v.toNat n
end
end HT
namespace L2
open PySem PySem.Spec PyProof.Rows
abbrev TO:=St→Hp→(Option Int→Hp→Prop)→Prop
def PO(X:Cx)(e:Option Expr)(t:TO):Prop:=
 ∀(pins:List (Addr×Obj)) (s:Shared) (σ:St) (H:Hp) (Q:Option Int→Hp→Prop),Inv X pins σ H s→t σ H Q→
  wpAny (model X.prog X.w) X.A (evalPart e X.env) (fun u s'=>∃o H',Inv X pins σ H' s'∧IsPart u o∧Q o H') X.xe s
def Ao:TO:=fun _ H Q=>Q none H
def F1(t:TE):TO:=fun σ H Q=>t σ H fun x H1=>∃i,x=.int i∧Q (some i) H1
theorem intsAre_of{ns:List Int}:∀{us:List Value},Vals (ns.map V.int) us→IntsAre us ns:=by
 induction ns with
 |nil=>intro us r;rw [List.map_nil] at r;cases r;exact .nil
 |cons n ns ih=>
  intro us r;rw [List.map_cons] at r;cases r with
  |cons r1 r2=>
   obtain⟨t,e⟩:=r1
   subst e;exact .cons n t (ih r2)
section
variable{X:Cx}{e:Expr}{te:TE}{lo hi:Option Expr}{tl th:TO}{pos p2:Pos}
theorem AU:PO X none Ao:=by
 intro pins s σ H Q I h;rw [evalPart_none];exact wpAny_pure ⟨none,H,I,.none,h⟩
theorem yx(h:PE X e te):PO X (some e) (F1 te):=by
 intro pins s σ H Q I hw;rw [evalPart_some];refine bC (h pins s σ H _ I hw) fun u s1 ⟨x,H1,I1,r1,q1⟩=>?_
 obtain⟨i,rfl,q⟩:=q1
 obtain⟨t,rfl⟩:=r1
 exact⟨some i,H1,I1,.int i t,q⟩
def SlR(X:Cx)(r:V→Option Int→Option Int→Hp→VK→Prop):Prop:=
 ∀(pins:List (Addr×Obj)) (s:Shared) (σ:St) (H:Hp) (x:V) (v vl vu:Value) (lo hi:Option Int) (sl:Addr) (Q:VK),Inv X pins σ H s→RelV x v→s.heap.IsSliceOf sl vl vu .none→IsPart vl lo→IsPart vu hi→r x lo hi H Q→
  ∃T id,typeLookup (.type T) "__getitem__"=pure (some (.builtin id))∧s.TypeIs v T∧wpAny (model X.prog X.w) X.A (getItem v (.ref sl)) (EP X pins σ Q) X.xe s
def Na(r:V→Option Int→Option Int→Hp→VK→Prop)(te:TE)(tl th:TO):TE:=fun σ H Q=>te σ H fun x H1=>tl σ H1 fun l H2=>th σ H2 fun u H3=>r x l u H3 Q
theorem vJ{r:V→Option Int→Option Int→Hp→VK→Prop}(hr:SlR X r)(he:PE X e te)(hl:PO X lo tl)(hu:PO X hi th):PE X (.Subscript e (.Slice lo hi none p2) pos) (Na r te tl th):=by
 intro pins s σ H Q I h;refine Subscript_ (bC (he pins s σ H _ I h) fun v s1 ⟨x,H1,I1,r1,q1⟩=>?_)
 refine wpAny_Slice (bC (hl pins s1 σ H1 _ I1 q1) fun vl s2 ⟨l,H2,I2,pl,q2⟩=>bC (hu pins s2 σ H2 _ I2 q2) fun vu s3 ⟨u,H3,I3,pu,q3⟩=>?_)
 rw [evalPart_none];refine wpAny_pure ?_;have I4:Inv X pins σ H3 {s3 with heap:=s3.heap.push {cls:=.type "slice",data:=.fields #[vl,vu,.none]}}:=I3.kept (t':=s3.toks) fun b ob q=>Heap.get?_push_of_some _ q
 obtain⟨T,id,hT,ht,hg⟩:=hr pins {s3 with heap:=s3.heap.push {cls:=.type "slice",data:=.fields #[vl,vu,.none]}} σ H3 x v vl vu l u s3.heap.objs.size Q I4 r1 (Heap.IsSliceOf.new ..) pl pu q3
 show wpAny (model X.prog X.w) X.A (subscriptTail e (.Slice lo hi none p2) v (.ref s3.heap.objs.size)) (EP X pins σ Q) X.xe {s3 with heap:=s3.heap.push {cls:=.type "slice",data:=.fields #[vl,vu,.none]}}
 exact tail_any (ops:=[.ref s3.heap.objs.size,v]) ht hT hg (by with_unfolding_all rfl)
def u4(xs:List V)(lo hi:Option Int):List V:=(xs.drop (HT.sIx xs.length 0 lo)).take (HT.sIx xs.length xs.length hi-HT.sIx xs.length 0 lo)
theorem oX(xs:List V)(lo hi:Option Int):(u4 xs lo hi).length≤xs.length:=by
 unfold u4;rw [List.length_take,List.length_drop];omega
noncomputable def Kc(K:PySem.W.Frag):R2:=fun x y H Q=>∃a b ns ms,x=.ref a∧y=.ref b∧ez K H a (ns.map V.int)∧ez K H b (ms.map V.int)∧Q (.bl (HT.lexLt ns ms)) H
theorem Du(hu:X.A.units<cLine):eO X (compareOp .Lt) (Kc X.K):=by
 intro pins s σ H x y v u Q I rx ry h;obtain⟨a,b,ns,ms,rfl,rfl,ha,hb,q⟩:=h
 cases rx;cases ry;obtain⟨aq,r1,p1,_⟩:=I.tuple ha
 obtain⟨aD,r2,p2,_⟩:=I.tuple hb
 have i1:IntsAre aq.toArray.toList ns:=intsAre_of r1
 have i2:IntsAre aD.toArray.toList ms:=intsAre_of r2
 exact HT.lt_tupInts p1 p2 i1 i2 hu ⟨.bl (HT.lexLt ns ms),H,I,rfl,q⟩
end
end L2
namespace L2
open PySem PySem.Spec PyProof.Rows
def Br(n:Nat)(i:Int):Option Nat:=if 0≤i then(if i<n then some i.toNat else none) else if -(n:Int)≤i then some (i+n).toNat else none
def oj{α:Type}(xs:List α)(i:Int):Option α:=(Br xs.length i).bind fun j=>xs[j]?
theorem zS{n:Nat}{i:Int}{j:Nat}(h:Br n i=some j):seqIndex? i n=some j∧j<n∧ -(n:Int)≤i∧i<n:=by
 unfold Br at h
 by_cases h0:0≤i
 ·rw [if_pos h0] at h
  by_cases h1:i<n
  ·rw [if_pos h1] at h;have e:i.toNat=j:=Option.some.inj h
   exact⟨by rw [seqIndex_of h0 h1,e],by omega,by omega,h1⟩
  ·rw [if_neg h1] at h;cases h
 ·rw [if_neg h0] at h
  by_cases h1: -(n:Int)≤i
  ·rw [if_pos h1] at h;have e:(i+n).toNat=j:=Option.some.inj h
   exact⟨by rw [seqIndex_neg (by omega) h1,e],by omega,h1,by omega⟩
  ·rw [if_neg h1] at h;cases h
theorem mM{α:Type}{xs:List α}{i:Int}{v:α}(h:oj xs i=some v):∃j,seqIndex? i xs.length=some j∧xs[j]?=some v∧j<xs.length∧ -(xs.length:Int)≤i∧i<xs.length:=by
 unfold oj at h;cases e:Br xs.length i with
 |none=>rw [e] at h;cases h
 |some j=>
  rw [e] at h;obtain⟨h1,h2,h3,h4⟩:=zS e
  exact⟨j,h1,h,h2,h3,h4⟩
def n0(b:Expr):Prop:=∀o i,subscripted b false o i=operate [o,i] (getItem o i)
def EE(X:Cx)(r:R2):Prop:=
 ∀(value slice:Expr) (pins:List (Addr×Obj)) (s:Shared) (σ:St) (H:Hp) (x y:V) (v u:Value) (Q:VK),Inv X pins σ H s→RelV x v→RelV y u→r x y H Q→
  subscripted slice false v u=operate [v,u] (getItem v u)→wpAny (model X.prog X.w) X.A (subscriptTail value slice v u) (EP X pins σ Q) X.xe s
def Iy(X:Cx)(id:String)(r:V→List V→Hp→VK→Prop):Prop:=
 ∀(pins:List (Addr×Obj)) (s:Shared) (σ:St) (H:Hp) (x:V) (xs:List V) (v:Value) (us:List Value) (Q:VK),Inv X pins σ H s→RelV x v→Vals xs us→r x xs H Q→
  wpAny (model X.prog X.w) X.A (call (.builtin id) (v::us)) (EP X pins σ Q) X.xe s
section
variable{X:Cx}{a b:Expr}{ta tb:TE}{pos:Pos}
theorem Bi{r:R2}(hr:EE X r)(ha:PE X a ta)(hb:PE X b tb)(hs:n0 b):PE X (.Subscript a b pos) (EF r ta tb):=by
 intro pins s σ H Q I h;exact Subscript_ (D6 ha hb I h fun v u s2 x y H2 I2 rx ry q=>hr a b pins s2 σ H2 x y v u Q I2 rx ry q (hs _ _))
noncomputable def JO(K:PySem.W.Frag):R2:=fun x y H Q=>∃p xs i v,x=.ref p∧y=.int i∧eh K H p xs∧oj xs i=some v∧Q v H
noncomputable def Fp(K:PySem.W.Frag):R2:=fun x y H Q=>∃p xs i v,x=.ref p∧y=.int i∧ez K H p xs∧oj xs i=some v∧Q v H
noncomputable def JD:R2:=fun x y H Q=>∃z i c,x=.str z∧y=.int i∧z.length≤sizeLine∧oj z.cps.toList i=some c∧Q (.str ⟨#[c]⟩) H
theorem zU:EE X (JO X.K):=by
 intro value slice pins s σ H x y v u Q I rx ry h hs;obtain⟨p,xs,i,z,rfl,rfl,hq,he,q⟩:=h
 cases rx;obtain⟨t,rfl⟩:=ry
 obtain⟨aq,r,pl,hz⟩:=I.list hq
 obtain⟨j,h1,h2,h3,h4,h5⟩:=mM he
 obtain⟨w,ew,gh⟩:=r.get h2
 have hl:=r.length
 have hn:=kH
 have fin:EP X pins σ Q w s:=⟨z,H,I,gh,q⟩
 by_cases h0:0≤i
 ·have hj:i.toNat=j:=by
   rw [seqIndex_of h0 h5] at h1;exact Option.some.inj h1
  exact item_listR pl.isList h0 (by omega) (by rw [hj];simpa using ew) fin hs
 ·have hj:(i+(aq.toArray.size:Int)).toNat=j:=by
   rw [seqIndex_neg (by omega) h4] at h1;rw [List.size_toArray,←hl];exact Option.some.inj h1
  exact subscriptTail_builtinR (x:=w) pl.isList.typeIs slot_list_getitem.lookup
   (wpAny_getItem_list_neg (Q:=fun r s'=>r=w∧EP X pins σ Q r s') pl.isList (by omega) (by rw [List.size_toArray]<;>omega) (by omega) (by rw [hj];simpa using ew) ⟨rfl,fin⟩) hs
theorem xH:EE X (Fp X.K):=by
 intro value slice pins s σ H x y v u Q I rx ry h hs;obtain⟨p,xs,i,z,rfl,rfl,hq,he,q⟩:=h
 cases rx;obtain⟨t,rfl⟩:=ry
 obtain⟨aq,r,pl,hz⟩:=I.tuple hq
 obtain⟨j,h1,h2,h3,h4,h5⟩:=mM he
 obtain⟨w,ew,gh⟩:=r.get h2
 have hl:=r.length
 have hn:=kH
 have fin:EP X pins σ Q w s:=⟨z,H,I,gh,q⟩
 exact subscriptTail_builtinR (x:=w) pl.typeIs slot_tuple_getitem.lookup
  (getItem_tuple (j:=j) (Q:=fun r s'=>r=w∧EP X pins σ Q r s') pl (by omega) (by omega) (by rw [List.size_toArray,←hl];exact h1) (by simpa using ew) ⟨rfl,fin⟩) hs
theorem DT:EE X JD:=by
 intro value slice pins s σ H x y v u Q I rx ry h hs;obtain⟨z,i,c,rfl,rfl,hz,he,q⟩:=h
 obtain⟨t,rfl⟩:=rx
 obtain⟨t',rfl⟩:=ry
 obtain⟨j,h1,h2,h3,h4,h5⟩:=mM he
 have hl:z.cps.toList.length=z.length:=by simp [Str.length]
 rw [hl] at h1 h4 h5;have hn:=kH
 exact tail_any (typeIs_str s z t) slot_str_getitem.lookup (getItem_str (c:=c) (by
  have e1:decide (i< -(2^63:Int))=false:=decide_eq_false (by omega)
  have e2:decide (i≥2^63)=false:=decide_eq_false (by omega)
  rw [e1,e2,Bool.or_false]) (by rw [h1];simpa using h2) ⟨.str ⟨#[c]⟩,H,I.tok _,⟨_,rfl⟩,q⟩) hs
theorem m8(lo hi:Option Int)(n:Nat):(sliceBounds lo hi none n).1=((HT.sIx n 0 lo:Nat):Int)∧(sliceBounds lo hi none n).2.1=((HT.sIx n n hi:Nat):Int)∧(sliceBounds lo hi none n).2.2=1:=by
 refine⟨?_,?_,rfl⟩
 ·cases lo with
  |none=>simp [sliceBounds,HT.sIx]
  |some i=>
   simp only [sliceBounds,HT.sIx,Option.getD_none,show(1:Int)>0 by decide,if_true]
   by_cases h:i<0
   ·simp only [h,if_true]<;>omega
   ·simp only [h,if_false]<;>omega
 ·cases hi with
  |none=>simp [sliceBounds,HT.sIx]
  |some i=>
   simp only [sliceBounds,HT.sIx,Option.getD_none,show(1:Int)>0 by decide,if_true]
   by_cases h:i<0
   ·simp only [h,if_true]<;>omega
   ·simp only [h,if_false]<;>omega
theorem kU(aq:List Value)(lo hi:Option Int):slicePick aq.toArray lo hi none=((aq.drop (HT.sIx aq.length 0 lo)).take (HT.sIx aq.length aq.length hi-HT.sIx aq.length 0 lo)).toArray:=by
 obtain⟨h1,h2,h3⟩:=m8 lo hi aq.toArray.size
 unfold slicePick;rw [h1,h2,h3];simp only [sliceRange_one,pick_run,List.size_toArray]<;>rfl
def Jl(K:PySem.W.Frag):V→Option Int→Option Int→Hp→VK→Prop:=fun x lo hi H Q=>∃a xs,x=.ref a∧eh K H a xs∧∀p,H p=none→Q (.ref p) (upd H p (.lst (u4 xs lo hi)))
theorem AY:SlR X (Jl X.K):=by
 intro pins s σ H x v vl vu lo hi sl Q I rx hs pl pu h;obtain⟨a,xs,rfl,hx,q⟩:=h
 cases rx;obtain⟨aq,r,ht,hz⟩:=I.list hx
 have hlen:=r.length
 refine⟨"list",_,slot_list_getitem.lookup,ht.isList.typeIs,?_⟩;refine wpAny_getItem_list_slice ht.isList hs pl pu .none (by simp) ?_ (by rw [List.size_toArray]<;>omega);rw [kU,←hlen];refine⟨.ref s.heap.objs.size,_,I.laid (t':=s.toks) (o:=.lst (u4 xs lo hi)) (fun b ob q=>Heap.get?_push_of_some _ q) (Nat.le_refl _) ?_,rfl,q _ (I.hok.fresh (Nat.le_refl _))⟩;exact⟨Nat.le_trans (oX xs lo hi) hz,_,0,(r.drop (HT.sIx xs.length 0 lo)).take (HT.sIx xs.length xs.length hi-HT.sIx xs.length 0 lo),Heap.get?_push_size _ rfl⟩
theorem ik:b9 X (.builtin "len") (fun xs H Q=>∃p ys,xs=[.ref p]∧(eh X.K H p ys∨ez X.K H p ys)∧Q (.int ys.length) H):=by
 intro pins s σ H xs us Q I r h;obtain⟨p,ys,rfl,hq,q⟩:=h
 obtain⟨u,rfl,rx⟩:=vals1 r
 cases rx;have hn:=kH
 rcases hq with hq|hq
 ·obtain⟨aq,r',pl,hz⟩:=I.list hq
  have hlen:=r'.length
  exact Calls.call_len_list pl.isList (by simp only [List.size_toArray]<;>omega) ⟨.int ys.length,H,I.tok _,⟨s.toks+1,by rw [List.size_toArray,hlen]⟩,q⟩
 ·obtain⟨aq,r',pl,hz⟩:=I.tuple hq
  have hlen:=r'.length
  exact len_tuple pl (by simp only [List.size_toArray]<;>omega) ⟨.int ys.length,H,I.tok _,⟨s.toks+1,by rw [List.size_toArray,hlen]⟩,q⟩
theorem nB:b9 X (.builtin "len") (fun xs H Q=>∃z,xs=[.str z]∧z.length≤sizeLine∧Q (.int z.length) H):=by
 intro pins s σ H xs us Q I r h;obtain⟨z,rfl,hz,q⟩:=h
 obtain⟨u,rfl,t,rfl⟩:=vals1 r
 have hn:=kH
 exact len_str (by omega) ⟨.int z.length,H,I.tok _,⟨_,rfl⟩,q⟩
def Ic(K:PySem.W.Frag)(T:String)(x:V)(H:Hp):Prop:=match x with
 |.str _=>T="str"
 |.int _=>T="int"
 |.ref p=>(T="list"∧∃xs,eh K H p xs)∨(T="tuple"∧∃o,K.lookup p=some o∧o.cls=.type "tuple"∧o.dict=none)∨
  (T="dict"∧((∃au,H p=some (.dK au))∨∃au,H p=some (.dT au)))∨(T="set"∧∃S n,H p=some (.set S n))
 |_=>False
theorem xZ{pins:List (Addr×Obj)}{σ:St}{H:Hp}{s:Shared}{T:String}{x:V}{v:Value}(I:Inv X pins σ H s)(r:RelV x v)(ty:Ic X.K T x H):
 s.TypeIs v T∧∀a,v=.ref a→∃ob,s.heap.get? a=some ob∧ob.dict=none:=by
 cases x with
 |str z=>
  obtain⟨t,rfl⟩:=r
  cases(show T="str" from ty);exact⟨typeIs_str s z t,fun _ e=>nomatch e⟩
 |int i=>
  obtain⟨t,rfl⟩:=r
  cases(show T="int" from ty);exact⟨typeIs_int s i t,fun _ e=>nomatch e⟩
 |ref p=>
  cases r;rcases ty with⟨rfl,xs,hq⟩|⟨rfl,o,hk,hc,hd⟩|⟨rfl,hk⟩|⟨rfl,S,n,hk⟩
  ·obtain⟨aq,_,pl,_⟩:=I.list hq
   refine⟨pl.isList.typeIs,fun a e=>?_⟩
   cases e;obtain⟨o,n,e,c,hd,_⟩:=pl
   exact⟨o,e,hd⟩
  ·refine⟨⟨o,I.kIn p o hk,hc⟩,fun a e=>?_⟩
   cases e;exact⟨o,I.kIn _ o hk,hd⟩
  ·have z:∃o,s.heap.get? p=some o∧o.ExactDict:=by
    rcases hk with⟨au,hk⟩|⟨au,hk⟩
    ·obtain⟨_,_,_,_,o,_,_,e,ex,_⟩:=I.hok p _ hk
     exact⟨o,e,ex⟩
    ·obtain⟨_,_,_,_,o,_,_,e,ex,_⟩:=I.hok p _ hk
     exact⟨o,e,ex⟩
   obtain⟨o,e,ex⟩:=z
   refine⟨⟨o,e,ex.1⟩,fun a e2=>?_⟩
   cases e2;exact⟨o,e,ex.2.1⟩
  ·obtain⟨o,_,_,_,e,ex,_⟩:=I.hok p _ hk
   refine⟨⟨o,e,ex.1⟩,fun a e2=>?_⟩
   cases e2;exact⟨o,e,ex.2.1⟩
 |_=>exact False.elim ty
noncomputable def Il(K:PySem.W.Frag)(T:String)(r:V→List V→Hp→VK→Prop)(to:TE):TE:=fun σ H Q=>to σ H fun x H1=>Ic K T x H1∧r x [] H1 Q
noncomputable def Nm(K:PySem.W.Frag)(T:String)(r:V→List V→Hp→VK→Prop)(to:TE)(t:TA):TE:=fun σ H Q=>to σ H fun x H1=>Ic K T x H1∧t σ H1 fun xs H2=>r x xs H2 Q
variable{o e:Expr}{es:List Expr}{to:TE}{t:TA}{name:Str}{apos br:Pos}{T id:String}{r:V→List V→Hp→VK→Prop}
theorem BQ(pa:PlainAttrs T)(slot:Slot T name id)(ID:typeOf (.builtin id)=pure (.type "method_descriptor"))(hm:Iy X id r)(ho:PE X o to)
 (eW:attributeBase o name X.env (eval o X.env)=eval o X.env:=by rfl) (fI:(apos.endLine==br.line)=true:=by rfl):PE X (.Call (.Attribute o name apos) [] [] br) (Il X.K T r to):=by
 intro pins s σ H Q I h;refine wpAny_Call_method0_late eW fI (bC (ho pins s σ H _ I h) fun v s1 ⟨x,H1,I1,r1,ty,q1⟩=>?_)
 obtain⟨h1,h2⟩:=xZ I1 r1 ty
 exact⟨T,id,pa,slot,ID,h1,h2,Calls.callWith_builtin rfl (PySem.evalArgs_none (hm pins s1 σ H1 x [] v [] Q I1 r1 .nil q1))⟩
theorem BA(pa:PlainAttrs T)(slot:Slot T name id)(ID:typeOf (.builtin id)=pure (.type "method_descriptor"))(hm:Iy X id r)(ho:PE X o to)(ha:PA X (e::es) t)
 (eW:attributeBase o name X.env (eval o X.env)=eval o X.env:=by rfl)
 (IF:((backTo br (starEach (e::es) X.env)).all (fun x=>!x.1)&&(backToKw br (keywordEach [] X.env)).all (fun x=>x.1.isSome)
  &&decide ((e::es).length+([]:List Keyword).length+(if([]:List Keyword).isEmpty then 0 else 1)<30))=true:=by rfl)
 (fI:(apos.endLine==br.line)=true:=by rfl) (hs:starEach (e::es) X.env=(false,eval e X.env)::starEach es X.env:=by rfl) (qv:(backTo br (starEach es X.env)).any (·.1)=false:=by rfl):
 PE X (.Call (.Attribute o name apos) (e::es) [] br) (Nm X.K T r to t):=by
 intro pins s σ H Q I h;refine wpAny_Call_method_late eW IF fI rfl (bC (ho pins s σ H _ I h) fun v s1 ⟨x,H1,I1,r1,ty,q1⟩=>?_)
 obtain⟨h1,h2⟩:=xZ I1 r1 ty
 refine⟨T,id,pa,slot,ID,h1,h2,?_⟩;have hA:=ha br pins s1 σ H1 _ I1 q1
 rw [hs] at hA⊢;refine Calls.callWith_builtin (by show(false||(backTo br (starEach es X.env)).any (·.1))=false;rw [qv]<;>rfl) (Calls.evalArgs_plain ?_);exact bC hA fun us s2 ⟨vs,H2,I2,r2,q2⟩=>hm pins s2 σ H2 x vs v us Q I2 r1 r2 q2
end
end L2
namespace L2
open PySem PySem.Spec PyProof.Rows
def LL(X:Cx)(id:String)(r:V→List V→Hp→VK→Prop):Prop:=
 ∀(pins:List (Addr×Obj)) (s:Shared) (σ:St) (H:Hp) (x:V) (xs:List V) (v:Value) (us:List Value) (Q:VK),Inv X pins σ H s→RelV x v→Vals xs us→r x xs H Q→
  wpAny (model X.prog X.w) X.A (call (.builtin id) (v::us)) (EP X pins σ Q) X.xe s
theorem Vals.one:∀{x:V} {us:List Value},Vals [x] us→∃u,us=[u]∧RelV x u
 |_,_,.cons r .nil=>⟨_,rfl,r⟩
theorem Vals.two{x y:V}{us:List Value}(h:Vals [x,y] us):∃u v,us=[u,v]∧RelV x u∧RelV y v:=by
 cases h with
 |cons r q=>
  cases q with
  |cons q n=>cases n;exact⟨_,_,rfl,r,q⟩
theorem Vals.zero:∀{us:List Value},Vals [] us→us=[]
 |_,.nil=>rfl
theorem Vals.dropLast{xs:List V}{us:List Value}(h:Vals xs us):Vals xs.dropLast us.dropLast:=by
 induction h with
 |nil=>exact .nil
 |cons r t ih=>
  cases t with
  |nil=>exact .nil
  |cons q t'=>exact .cons r ih
theorem Vals.rep{xs:List V}{us:List Value}(h:Vals xs us):∀k:Nat,Vals (List.replicate k xs).flatten (List.replicate k us).flatten
 |0=>.nil
 |k+1=>by
  rw [List.replicate_succ,List.replicate_succ,List.flatten_cons,List.flatten_cons];exact Vals.append h (Vals.rep h k)
theorem ql{α:Type}(l:List α):l.eraseIdx (l.length-1)=l.dropLast:=by
 induction l with
 |nil=>rfl
 |cons a r ih=>
  cases r with
  |nil=>rfl
  |cons b r=>
   have e:(a::b::r).length-1=((b::r).length-1)+1:=by
    have h1:(a::b::r).length=r.length+2:=rfl
    have h2:(b::r).length=r.length+1:=rfl
    omega
   rw [e,List.eraseIdx_cons_succ,ih]
   all_goals rfl
theorem foldl_rep(aq:List Value):∀(k:Nat) (acc:List Value),
 List.foldl (fun x1 x2=>x1++x2) acc.toArray (List.replicate k aq.toArray)=(acc++(List.replicate k aq).flatten).toArray
 |0,acc=>by simp
 |k+1,acc=>by
  have e:acc.toArray++aq.toArray=(acc++aq).toArray:=by simp
  have e2:(acc++aq)++(List.replicate k aq).flatten=acc++(List.replicate (k+1) aq).flatten:=by
   rw [List.replicate_succ,List.flatten_cons,List.append_assoc]
  rw [←e2,←foldl_rep aq k (acc++aq),←e,List.replicate_succ,List.foldl_cons]
section
variable{X:Cx}{pins:List (Addr×Obj)}{σ:St}{H:Hp}{s:Shared}{l b:Addr}{xs ys zs:List V}
theorem Inv.lset{aq its':List Value}{n:Nat}{f:Array Value→Array Value}{t':Nat}(I:Inv X pins σ H s)(hH:H l=some (.lst xs))
 (e:s.heap.get? l=some {cls:=.type "list",data:=.seq aq.toArray n}) (hf:f aq.toArray=its'.toArray) (hv:Vals ys its') (hz:ys.length≤sizeLine):
 Inv X pins σ (upd H l (.lst ys)) {s with heap:=s.heap.update l (Obj.mapSeq f),toks:=t'}:=by
 have q:=PySem.IsL.update e f
 rw [hf] at q;refine I.write (x:=l) (e:=l) (by rw [hH];exact trivial) (.inl rfl) (fun b' u hb hu=>(Heap.get?_update_other s.heap (Obj.mapSeq f) (Ne.symm hb)).trans hu) ⟨_,q⟩ ?_
 exact⟨hz,its',_,hv,q⟩
theorem Inv.lnew{aq:List Value}{t':Nat}(I:Inv X pins σ H s)(hv:Vals ys aq)(hz:ys.length≤sizeLine):
 Inv X pins σ (upd H s.heap.objs.size (.lst ys)) {s with heap:=s.heap.push {cls:=.type "list",data:=.seq aq.toArray},toks:=t'}:=
 I.laid (fun _ _ q=>Heap.get?_push_of_some _ q) (Nat.le_refl _) ⟨hz,aq,0,hv,Heap.get?_push_size _ rfl⟩
theorem Inv.fresh(I:Inv X pins σ H s):H s.heap.objs.size=none:=I.hok.fresh (Nat.le_refl _)
theorem Inv.lstM(I:Inv X pins σ H s)(hH:H l=some (.lst xs)):xs.length≤sizeLine∧∃(aq:List Value) (n:Nat),Vals xs aq∧xs.length=aq.length∧s.heap.get? l=some {cls:=.type "list",data:=.seq aq.toArray n}:=by
 obtain⟨z,aq,n,r,e⟩:=I.hok l _ hH
 exact⟨z,aq,n,r,r.length,e⟩
theorem xo{n:Nat}(h:n≤sizeLine):Builtin.List.listTooLong n=false:=by
 unfold Builtin.List.listTooLong;exact decide_eq_false (by omega)
end
section
variable{X:Cx}
def zl:V→List V→Hp→VK→Prop:=fun x vs H Q=>∃l xs y,x=.ref l∧vs=[y]∧H l=some (.lst xs)∧xs.length<sizeLine∧Q .non (upd H l (.lst (xs++[y])))
theorem uF:LL X "list.append" zl:=by
 intro pins s σ H x vs v us Q I rx rv h;obtain⟨l,xs,y,rfl,rfl,hH,hz,q⟩:=h
 cases rx;obtain⟨u,rfl,ru⟩:=rv.one
 obtain⟨z,aq,n,r,hl,e⟩:=I.lstM hH
 refine call_meets F.slot_list_append ⟨_,e,rfl⟩ F.entry_list_append (F.args_list_append_2 _ _) (PySem.list_append l aq.toArray n u (by rw [List.size_toArray];omega)) ⟨e,?_⟩;refine⟨.non,_,I.lset (its':=aq++[u]) hH e (by simp) (r.append (.cons ru .nil)) ?_,rfl,q⟩;rw [List.length_append,List.length_singleton];omega
def Ja:V→List V→Hp→VK→Prop:=fun x vs H Q=>∃l xs y,x=.ref l∧vs=[]∧H l=some (.lst xs)∧xs[xs.length-1]?=some y∧Q y (upd H l (.lst xs.dropLast))
theorem CO:LL X "list.pop" Ja:=by
 intro pins s σ H x vs v us Q I rx rv h;obtain⟨l,xs,y,rfl,rfl,hH,hy,q⟩:=h
 cases rx;have NU:=rv.zero
 subst NU;obtain⟨z,aq,n,r,hl,e⟩:=I.lstM hH
 obtain⟨u,hu,ru⟩:=r.get hy
 have vx:aq.toArray[aq.toArray.size-1]?=some u:=by
  show aq.toArray[aq.length-1]?=some u
  rw [←Array.getElem?_toList,←hl];exact hu
 refine call_meets F.slot_list_pop ⟨_,e,rfl⟩ F.entry_list_pop (F.args_list_pop_1 _) (MeetsSeq.list_pop_last l aq.toArray n u vx (by rw [List.size_toArray];omega)) ⟨e,?_⟩;refine⟨y,_,I.lset (its':=aq.dropLast) hH e ?_ r.dropLast ?_,ru,q⟩
 ·show aq.toArray.eraseIdxIfInBounds (aq.toArray.size-1)=aq.dropLast.toArray
  rw [List.size_toArray,List.eraseIdxIfInBounds_toArray,ql]
 ·rw [List.length_dropLast];omega
theorem len_rep{α:Type}(xs:List α)(k:Nat):(List.replicate k xs).flatten.length=k*xs.length:=by
 induction k with
 |zero=>simp
 |succ k ih=>rw [List.replicate_succ,List.flatten_cons,List.length_append,ih,Nat.succ_mul,Nat.add_comm]
end
section
variable{prog:Program}{w:World}{A:Around}{E:Value→Shared→Prop}{s:Shared}
end
section
variable{X:Cx}
end
end L2
namespace Att
open PySem PySem.W PySem.Calls PyProof.Rows
theorem je{P:Params}{h:Heap}:∀(ns:List Int) (vs:List Value),WellAll P h vs (ns.map WData.int)→IntsAre vs ns:=by
 intro ns
 induction ns with
 |nil=>
  intro vs w;rw [List.map_nil] at w;cases w;exact .nil
 |cons n ns ih=>
  intro vs w;rw [List.map_cons] at w;cases w with
  |cons a b=>
   cases a;exact .cons _ _ (ih _ b)
theorem tY{l:OpenLaw}{n:Nat}(hn:l.most=some n){P:Params}{h:Heap}{args:List WData}{vals:List Value}
 (AQ:l.row.toRowW.claim.pre args=true) (IH:WellAll P h vals args):
 ∃a vs ns,vals=[Value.ref a]∧args=[WData.list (ns.map WData.int)]∧h.get? a=some {cls:=.type "list",data:=.seq vs.toArray}∧IntsAre vs ns∧ns.length≤n:=by
 have Nj:WShape.hasAll [] args [.list .int]=true:=(pre_splitW AQ).1
 have hc:l.pre.holds [] {args:=args}=true:=(pre_splitW AQ).2
 obtain⟨d,r,rfl,h1,h2⟩:=hasAllW_cons Nj
 obtain rfl:=hasAllW_nil h2
 obtain⟨xs,rfl,h3⟩:=hasW_list h1
 obtain⟨ns,rfl⟩:=items_int h3
 have hlen:ns.length≤n:=by
  unfold OpenLaw.pre at hc;have h4:(WTm.not (.lt (.lit (.int (n:Int))) (.len (.arg 0)))).holds [] {args:=[.list (ns.map .int)]}=true:=by
   have h4:=(holds_andW hc).1
   rw [hn] at h4;exact h4
  have h5:=condW_of h4 (w_not (w_lt w_lit (w_len_list (w_arg rfl))))
  rw [List.length_map] at h5;refine Nat.le_of_not_lt fun q=>?_
  have q':(n:Int)<((ns.length:Nat):Int):=by omega
  first
   |(rw [decide_eq_true q'] at h5;exact absurd h5 (by decide))
   |(simp at h5;omega)
 cases IH with
 |cons w1 w2=>
  cases w2;cases w1 with
  |list ho hall=>exact⟨_,_,ns,rfl,rfl,ho,je ns _ hall,hlen⟩
theorem tZ(l:OpenLaw)(args:List WData):l.row.toRowW.claim.post args (.bool true) args=true:=
 postW_of (r:=l.row.toRowW) (X:=(true==true))
  (show WShape.has [] (.bool true) .bool=true by first|rfl|decide|simp [WShape.has,WShape.arms,WShape.armsAll])
  (show(WTm.eq .res (.lit (.bool true))).value [] {args:=args,res:=some (.bool true),after:=args}=some (.bool (true==true)) from w_eq_bool (w_res rfl) w_lit) rfl
theorem attach_call{l:OpenLaw}{n:Nat}{q:Program}{loose:List Str}{XP:(Str→Option Value)→Heap→Prop}{YP:World→Heap→Prop}{d:DefRec}
 (hn:l.most=some n) (F3:d.params.defaults=[])
 (call:∀(w:World) (s₀ s₁:Shared) (mg mb:Str→Option Value) (fa:Addr) (o:Obj) (pm cd doc:Value) (a:Addr) (vs:List Value) (ns:List Int),
  Ground q loose [] XP w s₀ mg mb s₁.heap→YP w s₁.heap→
  s₁.heap.get? fa=some o→o.data=.func (docDef d.name d.params d.body d.scope pm cd doc)→s₁.heap.CodeRec cd d.name→mg d.name=some (.ref fa)→
  s₁.heap.get? a=some {cls:=.type "list",data:=.seq vs.toArray}→IntsAre vs ns→ns.length≤n→s₁.gens=#[]→
  codeAny (model l.prog w) callerA (.call (.ref fa) ⟨[.ref a],[]⟩) (fun r s'=>r=.ok (.ret (.bool true))∧OldK s₁.heap s'.heap∧s'.os=s₁.os∧AllBare s'.gens) s₁):
 WalkO q loose XP YP l.row.toRowW d [] (fun f vs=>PySem.call f vs):=by
 intro w s₀ s₁ mg mb G Y fa o pm cd doc dV kV ho hd rf hD hmg hg args vals as AQ hlay hrd IH hlo;obtain rfl:dV=.none:=Dflts.none hD F3
 obtain rfl:kV=.none:=Dflts.noKw hD
 obtain⟨a,vs,ns,rfl,rfl,hobj,hints,hlen⟩:=tY hn AQ IH
 refine enter_call (codeAny_mono (call w s₀ s₁ mg mb fa o pm cd doc a vs ns G Y ho (fd_plain hd) rf hmg hobj hints hlen hg) fun r s' hq=>?_)
 obtain⟨rfl,h2,h3,h4⟩:=hq
 exact⟨.inl ⟨.bool true,.bool true,[],rfl,fun _=>rfl,.bool true,tZ l _,fun _=>⟨List.Pairwise.nil,fun _ hm=>(nomatch hm)⟩⟩,h2,h3,h4⟩
section
variable{prog:Program}{w:World}{A:Around}{E:Value→Shared→Prop}{s:Shared}{K:Frag}
def ledger(h:Heap)(L d:Addr):List (Addr×Obj):=(List.range h.objs.size).filterMap fun a=>if a=L∨a=d then none else(h.get? a).map fun o=>(a,o)
end
end Att
namespace L2
open PySem PySem.Spec PyProof.Rows
theorem mn:∀{vs:List Value} {ns:List Int},IntsAre vs ns→Vals (ns.map V.int) vs
 |_,_,.nil=>.nil
 |_,_,.cons n t h=>.cons ⟨t,rfl⟩ (mn h)
end L2
namespace L2
open PySem PySem.Spec PyProof.Rows
end L2
namespace L2
open PySem PySem.Spec PyProof.Rows
noncomputable def defArgs(s:Stmt):Arguments:=match s with
 |.FunctionDef _ a _ _ _ _ _ _ _ _=>a
 |_=>{posonlyargs:=[],args:=[],vararg:=none,kwonlyargs:=[],kw_defaults:=[],kwarg:=none,defaults:=[]}
def defBody(s:Stmt):List Stmt:=match s with
 |.FunctionDef _ _ b _ _ _ _ _ _ _=>b
 |_=>[]
def defScope(s:Stmt):Scope:=match s with
 |.FunctionDef _ _ _ _ _ _ sc _ _ _=>sc
 |_=>{kind:=.function,names:=[],isGenerator:=false,isCoroutine:=false}
structure Hn(K:PySem.W.Frag)(x qual:Str)(st:Stmt)(f:Addr)(fd:FuncData):Prop where
 ex:∃(oc:Value) (od:Option Addr) (kV doc pm:Value) (an:Option Addr) (e9 ct:Value) (qB:Array (Option Value)),
  fd=PySem.W.fnOf x qual (defArgs st) (defBody st) (defScope st) .none kV doc pm an e9 ct∧K.lookup f=some ⟨oc,od,.func fd,qB⟩∧PySem.W.codeIn K e9 qual=true
 kp:PySem.W.keepIn K (.ref f)=true
section
variable{P:Program}{w:World}{K:PySem.W.Frag}{mg:Str→Option Value}{base:Heap}
theorem Hn.binds{x qual:Str}{st:Stmt}{f:Addr}{fd:FuncData}{ps:List Str}(F:Hn K x qual st f fd)
 (h:∀(kV doc pm:Value) (an:Option Addr) (e9 ct:Value) (us:List Value),us.length=ps.length→bindArgs (PySem.W.fnOf x qual (defArgs st) (defBody st) (defScope st) .none kV doc pm an e9 ct) ⟨us,[]⟩=pure (ps.zip us)):Binds K fd ps []:=by
 obtain⟨oc,od,kV,doc,pm,an,e9,ct,qB,rfl,lk,rf⟩:=F.ex
 exact .all (h kV doc pm an e9 ct)
theorem xx{x qual:Str}{st:Stmt}{f:Addr}{oc:Value}{od an:Option Addr}{qB:Array (Option Value)}{kV doc pm e9 ct:Value}(l:K.lookup f=some ⟨oc,od,.func (PySem.W.fnOf x qual (defArgs st) (defBody st) (defScope st) .none kV doc pm an e9 ct),qB⟩)
 (c:PySem.W.codeIn K e9 qual=true) (k:PySem.W.keepIn K (.ref f)=true):Hn K x qual st f (PySem.W.fnOf x qual (defArgs st) (defBody st) (defScope st) .none kV doc pm an e9 ct):=⟨⟨oc,od,kV,doc,pm,an,e9,ct,qB,rfl,l,c⟩,k⟩
end
section
variable{X:Cx}
theorem pv(i:Nat){x:Str}{pos:Pos}(hN:X.N[i]?=some x:=by rfl)(hv:FV X.env.scope x:=by first|exact Or.inl rfl|exact Or.inr (Or.inl rfl)|exact Or.inr (Or.inr rfl))(hd:(x==("__debug__":Str))=false:=by decide)
 (rf:(x==("__classdict__":Str))=false:=by decide):PE X (.Name x pos) (xM i):=d7 hN hv hd rf
end
theorem Iu{A B:Prop}(h:B):if false=true then A else B:=by
 rw [if_neg zzf];exact h
theorem JI{A B:Prop}(h:A):if true=true then A else B:=by
 rw [if_pos rfl];exact h
def ay(H H':Hp):Prop:=∀b o,H b=some o→H' b=some o
theorem ay.refl(H:Hp):ay H H:=fun _ _ h=>h
theorem ay.trans{H H1 H2:Hp}(a:ay H H1)(b:ay H1 H2):ay H H2:=fun c o h=>b c o (a c o h)
theorem ay.free{H H':Hp}(e:ay H H'){l:Addr}(h:H' l=Option.none):H l=Option.none:=by
 cases q:H l with
 |none=>rfl
 |some o=>
  rw [e l o q] at h;cases h
theorem ay.seq{K:PySem.W.Frag}{H H':Hp}{a:Addr}{xs:List V}(e:ay H H')(h:eh K H a xs):eh K H' a xs:=by
 rcases h with(h|⟨o,h⟩)|h
 ·exact .inl (.inl (e _ _ h))
 ·exact .inl (.inr ⟨o,e _ _ h⟩)
 ·exact .inr h
end L2
set_option maxHeartbeats 8000000
namespace L2
open PySem PySem.Spec PyProof.Rows
open PySem.W (hideAll hideAll_get of_hideAll funFrames_hide)
structure A1(P:Program)(w:World)(outer:List Env)(H:Hp)(s:Shared)(E:XK)(a C t:Addr)(vs:List Value)(H':Hp)(B:Heap)(s':Shared):Prop where
 os:s'.os=s.os
 bare:AllBare s'.gens
 hok:dN P w H' B
 fly:Heap.FlyingW B outer a (.ref C) (.ref t) s'.heap
 tn:B.get? t=none
 tup:s'.heap.TupAt t vs
 keepB:∀b o,s.heap.get? b=some o→H b=none→b∉d0 outer→B.get? b=some o
 thereB:∀b o,s.heap.get? b=some o→b∉d0 outer→∃o',B.get? b=some o'
 un:Un (d0 outer) [] H H' s.heap s'.heap
 ends:E (.ref C) (some a) H'
def dC(P:Program)(w:World):qe:=fun outer H s E e s'=>∃a C t vs H' B,e=.ref a∧A1 P w outer H s E a C t vs H' B s'
section
variable{P:Program}{w:World}{K:PySem.W.Frag}{mg:Str→Option Value}{base:Heap}{N:List Str}{qual:Str}{scope:Scope}{f:Addr}{cd:Value}{A:Around}{outer:List Env}{s0:Shared}{H0:Hp}{E:XK}
theorem iI{X:Cx}{pins:List (Addr×Obj)}{σ:St}{H:Hp}{s:Shared}(I:Inv X pins σ H s){b:Addr}{o:Obj}(hl:X.env.locals=X.s₀.heap.objs.size)(q:X.s₀.heap.get? b=some o)(hb:b∉X.fs):b∉d0 X.stack:=fun z=>by
 rcases List.mem_cons.mp (I.stkSub b z) with e|e
 ·rw [hl] at e;exact absurd (Heap.lt_size q) (by rw [e];exact Nat.lt_irrefl _)
 ·exact hb e
theorem GN:Passes (dC P w) (dk (dC P w) P w K mg base N qual scope f cd A outer s0 H0 E) E:=by
 rintro pins σ H s e s' I ⟨a,C,t,vs,H',B,rfl,F⟩
 have nx:∀b:Addr,b∉(dk (dC P w) P w K mg base N qual scope f cd A outer s0 H0 E).ex:=fun b z=>nomatch (show b∈([]:List Addr) from z)
 have keepB:∀b o,s0.heap.get? b=some o→H0 b=none→b∉d0 outer→B.get? b=some o:=fun b o q n hb=>
  F.keepB b o (I.base.keep b o q n hb (nx b)) (I.base.free b o q n (nx b)) (iI I rfl q hb)
 have thereB:∀b o,s0.heap.get? b=some o→b∉d0 outer→∃o',B.get? b=some o':=fun b o q hb=>by
  obtain⟨o1,q1⟩:=I.base.there b o q (nx b)
  exact F.thereB b o1 q1 (iI I rfl q hb)
 refine wpAny_leaves_onW I.ok.frames rfl F.fly fun h' x1 x2=>⟨a,C,t,vs,H',B,rfl,?_⟩
 have slot:∀b o,s0.heap.get? b=some o→H0 b=none→b∈d0 outer→∃sl,h'.get? b=some {o with slots:=sl}:=fun b o q n hb=>by
  obtain⟨sl,q1⟩:=I.base.slot b o q n hb (nx b)
  obtain⟨EU,q2⟩:=F.un.any q1 (I.base.free b o q n (nx b)) (fun z=>nomatch z)
  obtain⟨_,o',q3,hd⟩:=F.fly.2.2.1.mem (b:=b) (List.mem_filterMap.mpr (let⟨v,h1,h2⟩:=List.mem_filterMap.mp hb;⟨v,.tail _ h1,h2⟩))
  rw [q2] at q3;cases q3;obtain⟨sl3,q4⟩:=x2 b _ q2 hd
  exact⟨sl3,q4⟩
 refine⟨F.os.trans I.os,F.bare,F.hok,x1,F.tn,F.tup.of_slots x2,keepB,thereB,⟨fun b o q n hb _=>x1.1 _ _ (keepB b o q n hb),fun b o q n hb _=>slot b o q n hb,fun b o q n _=>?_,fun b o q _=>?_,fun b xs q=>F.un.tups _ _ (I.base.tups _ _ q),fun b o u q=>F.un.frzs _ _ _ (I.base.frzs _ _ _ q),fun b ps q=>?_⟩,F.ends⟩
 ·obtain⟨sl,q1⟩:=I.base.any q n (nx b)
  exact F.un.free b _ q1 (I.base.free b o q n (nx b)) (fun z=>nomatch z)
 ·by_cases hb:b∈d0 outer
  ·obtain⟨sl,q1⟩:=slot b o q (I.ok.frf b hb) hb
   exact⟨_,q1⟩
  ·obtain⟨o',q1⟩:=thereB b o q hb
   exact⟨o',x1.1 _ _ q1⟩
 ·obtain⟨m1,q1⟩:=I.base.tbls b ps q
  obtain⟨m2,q2⟩:=F.un.tbls b _ q1
  exact⟨m1++m2,by rw [←Array.append_assoc];exact q2⟩
theorem CJ{pins:List (Addr×Obj)}{σ:St}{H:Hp}{s:Shared}{h1:Heap}{e C:Addr}{us:List Value}(I:Inv (dk (dC P w) P w K mg base N qual scope f cd A outer s0 H0 E) pins σ H s)
 (hx:Heap.MadeExcOf s.heap h1 e (.ref C) us) (hE:E (.ref C) (some e) H):(dk (dC P w) P w K mg base N qual scope f cd A outer s0 H0 E).xe (.ref e) {s with heap:=h1}:=by
 have nx:∀b:Addr,b∉(dk (dC P w) P w K mg base N qual scope f cd A outer s0 H0 E).ex:=fun b z=>nomatch (show b∈([]:List Addr) from z)
 have Ll:∀env∈(dk (dC P w) P w K mg base N qual scope f cd A outer s0 H0 E).stack,∀b,env.frame=some b→b∈d0 (dk (dC P w) P w K mg base N qual scope f cd A outer s0 H0 E).stack:=fun env he b hb=>List.mem_filterMap.mpr ⟨env,he,hb⟩
 refine wpAny_leaves_madeW (h:=s.heap) I.ok.frames rfl (fun b o q=>of_hideAll _ q) (funFrames_hide I.stack Ll) hx fun h' t x1 x2 x3 x4=>⟨e,C,t,us,H,hideAll s.heap (d0 (dk (dC P w) P w K mg base N qual scope f cd A outer s0 H0 E).stack),rfl,?_⟩
 have keepB:∀b o,s0.heap.get? b=some o→H0 b=none→b∉d0 outer→(hideAll s.heap (d0 (dk (dC P w) P w K mg base N qual scope f cd A outer s0 H0 E).stack)).get? b=some o:=fun b o q n hb=>
  hideAll_get _ (I.base.keep b o q n hb (nx b)) (iI I rfl q hb)
 have thereB:∀b o,s0.heap.get? b=some o→b∉d0 outer→∃o',(hideAll s.heap (d0 (dk (dC P w) P w K mg base N qual scope f cd A outer s0 H0 E).stack)).get? b=some o':=fun b o q hb=>by
  obtain⟨o1,q1⟩:=I.base.there b o q (nx b)
  exact⟨o1,hideAll_get _ q1 (iI I rfl q hb)⟩
 have slot:∀b o,s0.heap.get? b=some o→H0 b=none→b∈d0 outer→∃sl,h'.get? b=some {o with slots:=sl}:=fun b o q n hb=>by
  obtain⟨sl,q1⟩:=I.base.slot b o q n hb (nx b)
  obtain⟨_,o',q3,hd⟩:=I.stack.mem (b:=b) (List.mem_filterMap.mpr (let⟨v,h1,h2⟩:=List.mem_filterMap.mp hb;⟨v,.tail _ h1,h2⟩))
  rw [q1] at q3;cases q3;obtain⟨sl3,q4⟩:=x4 b _ (hx.keeps _ _ q1) hd
  exact⟨sl3,q4⟩
 refine⟨I.os,I.bare,fun b o q=>?_,x1,x3,x2,keepB,thereB,⟨fun b o q n hb _=>x1.1 _ _ (keepB b o q n hb),fun b o q n hb _=>slot b o q n hb,fun b o q n _=>I.base.free b o q n (nx b),fun b o q _=>?_,I.base.tups,I.base.frzs,I.base.tbls⟩,hE⟩
 ·refine(I.hok b o q).stay (fun c v hc r=>hideAll_get _ r fun z=>?_) (fun _ q=>q) fun _ _ q=>q
  have z':=I.stkFree c z
  rcases hc with rfl|hc
  ·rw [q] at z';cases z'
  ·rw [hc] at z';cases z'
 ·by_cases hb:b∈d0 outer
  ·obtain⟨sl,q1⟩:=slot b o q (I.ok.frf b hb) hb
   exact⟨_,q1⟩
  ·obtain⟨o',q1⟩:=thereB b o q hb
   exact⟨o',x1.1 _ _ q1⟩
end
end L2
namespace L2
open PySem PySem.Spec PyProof.Rows
theorem i6{P:Program}{w:World}{H:Hp}{h:Heap}{a:Addr}{o:HO}(x:bM P w H h a o):∃o',h.get? a=some o':=by
 cases o with
 |lst xs=>obtain⟨_,_,_,_,e⟩:=x;exact⟨_,e⟩
 |tup xs=>obtain⟨_,_,_,o,e,_⟩:=x;exact⟨_,e⟩
 |dK au=>obtain⟨_,_,_,_,o,_,_,e,_⟩:=x;exact⟨_,e⟩
 |dT au=>obtain⟨_,_,_,_,o,_,_,e,_⟩:=x;exact⟨_,e⟩
 |set S n=>obtain⟨o,_,_,_,e,_⟩:=x;exact⟨_,e⟩
 |ins C dx fs=>obtain⟨_,_,_,e,_⟩:=x;exact⟨_,e⟩
 |own y=>exact x
 |xd fs=>obtain⟨_,⟨_,_,_,e,_⟩,_⟩:=x;exact⟨_,e⟩
 |rng lo hi=>obtain⟨_,_,_,e⟩:=x;exact⟨_,e⟩
 |frz ob u=>obtain⟨e,_⟩:=x;exact⟨_,e⟩
 |tbl ps=>exact⟨_,x⟩
 |met f y=>exact⟨_,x⟩
 |ext φ=>exact x.2.1
def B7(C:Addr)(E:XK)(ta:TA):TS:=fun _ σ H=>ta σ H fun vs H1=>vs.length≤sizeLine∧∀e,H1 e=none→E (.ref C) (some e) H1
section
variable{P:Program}{w:World}{K:PySem.W.Frag}{mg:Str→Option Value}{base:Heap}{N:List Str}{qual:Str}{scope:Scope}{f:Addr}{cd:Value}{A:Around}{outer:List Env}{s0:Shared}{H0:Hp}{E:XK}
theorem x8{x:Str}{C:Addr}{Bn newId Dt:String}{bm:List Value}{e₀:Expr}{rest:List Expr}{np br pos:Pos}{ta:TA}(hg:Gl (dk (dC P w) P w K mg base N qual scope f cd A outer s0 H0 E) x)(O:OwnCls x C bm newId mg base)(FB:ExcBaseFacts Bn newId Dt bm)
 (ha:PA (dk (dC P w) P w K mg base N qual scope f cd A outer s0 H0 E) (e₀::rest) ta)
 (he:starEach (e₀::rest) (dk (dC P w) P w K mg base N qual scope f cd A outer s0 H0 E).env=(false,eval e₀ (dk (dC P w) P w K mg base N qual scope f cd A outer s0 H0 E).env)::starEach rest (dk (dC P w) P w K mg base N qual scope f cd A outer s0 H0 E).env:=by rfl)
 (qv:(backTo br (starEach rest (dk (dC P w) P w K mg base N qual scope f cd A outer s0 H0 E).env)).any (·.1)=false:=by rfl) (hd:(x==("__debug__":Str))=false:=by decide):
 PS (dk (dC P w) P w K mg base N qual scope f cd A outer s0 H0 E) (.Raise (some (.Call (.Name x np) (e₀::rest) [] br)) none pos) (B7 C E ta):=by
 intro pins s σ H D I h;obtain⟨tl,Nn,nm,q,bs,hdct,sn,sub,ab,col,dd,k0,k1,k2,k3,k5,mN,hC,hN,hni,T⟩:=O.obj
 refine wpAny_Raise_call_subT (C:=C) (nm:=nm) (q:=q) (N:=Nn) (bs:=bs) (bm:=tl) (hdct:=hdct) (sn:=sn) (sub:=sub) (ab:=ab) (col:=col) (dd:=dd) (k0:=k0) (k1:=k1) (k2:=k2) (k3:=k3) (k5:=k5)
  FB (mN:=mN) (T.hasType FB.hasBase) (I.ok.hd rfl) (by rw [he];show(false||(backTo br (starEach rest (dk (dC P w) P w K mg base N qual scope f cd A outer s0 H0 E).env)).any (·.1))=false;rw [qv];rfl) hni (fY I hg O.bound ⟨rfl,?_⟩ hd)
 have h2:=ha br pins s σ H _ I h
 rw [he] at h2⊢;refine Calls.evalArgs_plain (wpAny_mono h2 (fun us s2 ⟨vs,H1,I1,rv,hl,hE⟩=>?_) fun _ _ y=>y)
 refine⟨rfl,by rw [←rv.length];exact hl,I1.bk _ _ hC,hN.keeps I1.bk,T.keeps I1.bk,fun h1 e hx=>CJ I1 hx (hE e ?_)⟩
 cases z:H1 e with
 |none=>rfl
 |some o=>
  obtain⟨o',iA⟩:∃o',s2.heap.get? e=some o':=by
   exact i6 (I1.hok _ _ z)
  rw [hx.new] at iA;cases iA
end
end L2
namespace L2
open PySem PySem.Spec PyProof.Rows
def F9(a C:Addr):HO:=.ext fun h=>∃ob vs,h.get? a=some ob∧ob.cls=.ref C∧ob.data=.fields vs
section
variable{P:Program}{w:World}
theorem A1.fresh{outer:List Env}{H:Hp}{s s':Shared}{E:XK}{a C t:Addr}{vs:List Value}{H':Hp}{B:Heap}(F:A1 P w outer H s E a C t vs H' B s'):H' a=none:=by
 cases z:H' a with
 |none=>rfl
 |some o=>
  obtain⟨o',iA⟩:=i6 (F.hok _ _ z)
  rw [F.fly.2.1] at iA;cases iA
end
end L2
namespace L2
open PySem PySem.Spec PyProof.Rows
def bz(env:Env)(ys:List Str):List (Str×Addr):=ys.map fun y=>(y,(env.cells.lookup y).getD 0)
def xS(σ:St)(is:List Nat):St:=is.map fun i=>(σ[i]?).join
def ju(scope:Scope)(x:Str):Bool:=scope.names.lookup x==some .cell
theorem rD{x:Str}{c:Addr}:∀(names:List (Str×NameKind)) (n:Nat) (acc:List (Str×Addr)),(x,c)∈cellsFrom n names acc→(x,c)∈acc∨(x,NameKind.cell)∈names∧n≤c
 |[],n,acc,h=>by rw [cellsFrom.eq_def] at h;exact .inl h
 | (y,k)::r,n,acc,h=>by
  rw [cellsFrom.eq_def] at h;dsimp only at h;split at h
  ·rename_i hk;cases eq_of_beq hk;rcases rD r (n+1) _ h with z|⟨z1,z2⟩
   ·rcases List.mem_cons.mp z with z|z
    ·cases z;exact .inr ⟨List.mem_cons_self ..,Nat.le_refl _⟩
    ·exact .inl z
   ·exact .inr ⟨List.mem_cons_of_mem _ z1,Nat.le_of_succ_le z2⟩
  ·rcases rD r n _ h with z|⟨z1,z2⟩
   ·exact .inl z
   ·exact .inr ⟨List.mem_cons_of_mem _ z1,z2⟩
theorem mF{x:Str}{c:Addr}:∀(names:List (Str×NameKind)) (n:Nat) (acc:List (Str×Addr)),(cellsFrom n names acc).lookup x=some c→acc.lookup x=some c∨(x,NameKind.cell)∈names∧n≤c
 |[],n,acc,h=>by rw [cellsFrom.eq_def] at h;exact .inl h
 | (y,k)::r,n,acc,h=>by
  rw [cellsFrom.eq_def] at h;dsimp only at h;split at h
  ·rename_i hk;cases eq_of_beq hk;rcases mF r (n+1) _ h with z|⟨z1,z2⟩
   ·rw [List.lookup_cons] at z;cases e:x==y with
    |true=>rw [e] at z;cases z;cases eq_of_beq e;exact .inr ⟨List.mem_cons_self ..,Nat.le_refl _⟩
    |false=>rw [e] at z;exact .inl z
   ·exact .inr ⟨List.mem_cons_of_mem _ z1,Nat.le_of_succ_le z2⟩
  ·rcases mF r n _ h with z|⟨z1,z2⟩
   ·exact .inl z
   ·exact .inr ⟨List.mem_cons_of_mem _ z1,z2⟩
theorem nc{x:Str}:∀(names:List (Str×NameKind)) (n:Nat) (acc:List (Str×Addr)),(x,NameKind.cell)∉names→(cellsFrom n names acc).lookup x=acc.lookup x
 |[],n,acc,_=>by rw [cellsFrom.eq_def]
 |(y,k)::r,n,acc,h=>by
  rw [cellsFrom.eq_def];dsimp only;have hr:(x,NameKind.cell)∉r:=fun z=>h (List.mem_cons_of_mem _ z)
  split
  ·rename_i hk;cases eq_of_beq hk;rw [nc r (n+1) _ hr,List.lookup_cons];cases e:x==y with
   |true=>cases eq_of_beq e;exact absurd (List.mem_cons_self ..) h
   |false=>rfl
  ·exact nc r n acc hr
theorem BR{x:Str}{c:Addr}:∀(names:List (Str×NameKind)) (n:Nat) (acc:List (Str×Addr)),(x,c)∈cellsFrom n names acc→(∀p∈acc,p.2≠c)→(x,c)∈cellsFrom n names []
 |names,n,acc,h,ha=>by
  have key:∀(names:List (Str×NameKind)) (n:Nat) (acc b:List (Str×Addr)),(x,c)∈cellsFrom n names (b++acc)→(∀p∈acc,p.2≠c)→(x,c)∈cellsFrom n names b:=by
   intro names
   induction names with
   |nil=>
    intro n acc b h ha;rw [cellsFrom.eq_def] at h⊢;rcases List.mem_append.mp h with z|z
    ·exact z
    ·exact absurd rfl (ha _ z)
   |cons y r ih=>
    intro n acc b h ha;obtain⟨y,k⟩:=y
    rw [cellsFrom.eq_def] at h⊢;dsimp only at h⊢;split at h
    ·rename_i hk;rw [if_pos hk];exact ih (n+1) acc ((y,n)::b) h ha
    ·rename_i hk;rw [if_neg hk];exact ih n acc b h ha
  exact key names n acc [] h ha
theorem nV{x y:Str}{c:Addr}:∀(names:List (Str×NameKind)) (n:Nat) (acc:List (Str×Addr)),(∀p∈acc,p.2<n)→n≤c→(x,c)∈cellsFrom n names acc→(y,c)∈cellsFrom n names acc→x=y
 |[],n,acc,ha,hc,h1,h2=>by
  rw [cellsFrom.eq_def] at h1;exact absurd (ha _ h1) (Nat.not_lt.mpr hc)
 | (z,k)::r,n,acc,ha,hc,h1,h2=>by
  rw [cellsFrom.eq_def] at h1 h2;dsimp only at h1 h2;split at h1
  ·rename_i hk;rw [if_pos hk] at h2;have Mp:∀p∈(z,n)::acc,p.2<n+1:=fun p hp=>by
    rcases List.mem_cons.mp hp with q|q
    ·rw [q];exact Nat.lt_succ_self _
    ·exact Nat.lt_succ_of_lt (ha p q)
   by_cases hn:n+1≤c
   ·exact nV r (n+1) _ Mp hn h1 h2
   ·have one:∀{w:Str},(w,c)∈cellsFrom (n+1) r ((z,n)::acc)→w=z:=fun{w} h=>by
     rcases rD r (n+1) _ h with q|q
     ·rcases List.mem_cons.mp q with q|q
      ·cases q;rfl
      ·exact absurd (ha _ q) (Nat.not_lt.mpr hc)
     ·exact absurd q.2 hn
    rw [one h1,one h2]
  ·rename_i hk;rw [if_neg hk] at h2;exact nV r n acc ha hc h1 h2
theorem qF{M:Model}{A:Around}{E:Value→Shared→Prop}{s:Shared}{scope:Scope}{g:Addr}{cl:List (Str×Addr)}{qual:Str}{around:Env}{Q:Env→Shared→Prop}
 (h:Q (newEnv scope s.heap.objs.size g (cellsFrom (s.heap.objs.size+1) scope.names cl) qual none .none (some around) builtinsNs) {s with heap:=pushCells (s.heap.push {cls:=.type "dict",data:=.dict #[]}) scope.names}):
 wpAny M A (newFunctionEnv scope g cl [] qual none .none (some around)) Q E s:=by
 unfold newFunctionEnv;refine wpAny_bind (wpAny_alloc ?_);refine wpAny_bind (wpAny_forIn_list _ (fun rest b s'=>s'={s with heap:=s'.heap}∧pushCells s'.heap rest=pushCells (s.heap.push {cls:=.type "dict",data:=.dict #[]}) scope.names∧cellsFrom s'.heap.objs.size rest b=cellsFrom (s.heap.objs.size+1) scope.names cl) _ (fun x rest b s' hI=>?_) (fun b s' hI=>?_) scope.names cl ⟨rfl,rfl,by rw [Heap.size_push]⟩)
 ·obtain⟨h1,h2,h3⟩:=hI
  obtain⟨nm,k⟩:=x
  rw [pushCells.eq_def] at h2;rw [cellsFrom.eq_def] at h3;dsimp only at h2 h3⊢;split
  ·rename_i hk;rw [if_pos hk] at h2 h3;refine wpAny_bind (wpAny_alloc (wpAny_pure ⟨by rw [h1],h2,?_⟩));dsimp only;rw [Heap.size_push];exact h3
  ·rename_i hk;rw [if_neg hk] at h2 h3;exact wpAny_pure ⟨h1,h2,h3⟩
 ·obtain⟨h1,h2,h3⟩:=hI
  rw [pushCells.eq_def] at h2;rw [cellsFrom.eq_def] at h3;dsimp only at h2 h3;subst h3;rw [h1,h2];exact wpAny_bind (wpAny_pure (wpAny_pure h))
noncomputable def bQ(X:Cx)(N':List Str)(scope:Scope)(cl:List (Str×Addr))(fp:List Addr)(s₁:Shared)(H₁:Hp)(C:Addr):Cx where
 prog:=X.prog
 w:=X.w
 K:=X.K
 mg:=X.mg
 base:=X.base
 A:=X.A
 N:=N'
 s₀:=s₁
 H₀:=H₁
 env:=compEnvC scope (cellsFrom (C+1) scope.names cl) C X.env
 outer:=X.stack
 stack:=X.stack
 ex:=fp
 fn:=ju scope
 calm:=true
 pn:=[]
 xe:=fun _ _=>False
theorem dS{env:Env}:∀{ys:List Str},(ys.all fun y=>(env.cells.lookup y).isSome)=true→∀(x:Str) (c:Addr),(bz env ys).lookup x=some c→env.cells.lookup x=some c
 |[],_,_,_,h=>by simp [bz] at h
 |y::ys,ha,x,c,h=>by
  rw [List.all_cons,Bool.and_eq_true] at ha;have ih:=dS (env:=env) ha.2 x c
  unfold bz at h ih;rw [List.map_cons,List.lookup_cons] at h;cases e:x==y with
  |true=>
   rw [e] at h;have JB:x=y:=beq_iff_eq.mp e
   subst JB;obtain⟨c',gq⟩:=Option.isSome_iff_exists.mp ha.1
   rw [gq] at h⊢;exact h
  |false=>
   rw [e] at h;exact ih h
theorem ir{env:Env}:∀{ys:List Str} {x:Str},x∈ys→∃c,(bz env ys).lookup x=some c
 |[],_,h=>nomatch h
 |y::ys,x,h=>by
  unfold bz;rw [List.map_cons,List.lookup_cons];cases e:x==y with
  |true=>exact⟨_,rfl⟩
  |false=>
   have hx:x∈ys:=by
    rcases List.mem_cons.mp h with z|z
    ·rw [z] at e;simp at e
    ·exact z
   exact ir (env:=env) hx
theorem iW{scope:Scope}{env:Env}{x:Str}{k:NameKind}(h:(relabel scope env).names.lookup x=some k)(hk:k=.cell∨k=.free):∃k',(x,k')∈scope.names∧(k'=.cell∨k'=.free):=by
 have hm:=PySem.mem_of_lookup h
 unfold relabel at hm;obtain⟨⟨n,k0⟩,h0,e⟩:=List.mem_map.mp hm
 dsimp only at e;split at e
 ·rename_i hc;cases e;refine⟨k0,h0,.inr ?_⟩;rw [Bool.and_eq_true,Bool.and_eq_true] at hc;exact beq_iff_eq.mp hc.1.1
 ·cases e;exact⟨k,h0,hk⟩
structure dX(X:Cx)(scope:Scope)(xs ys:List Str)(is:List Nat):Prop where
 kind:scope.kind=.function
 clos:closureFor scope X.env=pure (bz X.env ys)
 cells:(ys.all fun y=>(X.env.cells.lookup y).isSome)=true
 cov:(scope.names.all fun y=>(decide (y.2≠.cell)||!ys.contains y.1)&&(decide (y.2≠.free)||ys.contains y.1))=true
 own:(scope.names.all fun y=>decide (y.2≠.cell)||decide (scope.names.lookup y.1=some .cell))=true
 names:(scope.names.all fun y=>decide (y.2≠.local)||decide (scope.names.lookup y.1=some .local))=true
 slots:is.map (fun i=>X.N[i]?)=ys.map some
 kX:(ys.all fun y=>decide (X.env.kindOf y=some .cell))=true
 kY:(ys.all fun y=>decide ((relabel scope X.env).names.lookup y=some .cell))=true
section
variable{X:Cx}{pins:List (Addr×Obj)}{σ:St}{H:Hp}{s:Shared}{scope:Scope}{xs ys:List Str}{is:List Nat}
theorem dX.ownL(S:dX X scope xs ys is){x:Str}(h:(x,NameKind.cell)∈scope.names):scope.names.lookup x=some .cell∧x∉ys:=by
 have q:=List.all_eq_true.mp S.own _ h
 have c:=List.all_eq_true.mp S.cov _ h
 rw [Bool.and_eq_true,Bool.or_eq_true] at c;rw [Bool.or_eq_true] at q;refine⟨of_decide_eq_true (q.resolve_left fun z=>of_decide_eq_true z rfl),fun hy=>?_⟩
 rcases c.1 with z|z
 ·exact of_decide_eq_true z rfl
 ·rw [List.contains_iff_mem.mpr hy] at z;cases z
theorem ft(I:Inv X pins σ H s)(S:dX X scope xs ys is){C:Addr}(hC:s.heap.objs.size≤C){x:Str}{c:Addr}(h:(cellsFrom (C+1) scope.names (bz X.env ys)).lookup x=some c):
 (X.env.cells.lookup x=some c∧c<s.heap.objs.size∧x∈ys)∨((x,NameKind.cell)∈scope.names∧C+1≤c):=by
 rcases mF _ _ _ h with z|z
 ·have e:=dS S.cells x c z
  obtain⟨v,q⟩:=I.cell x c e
  refine .inl ⟨e,q.lt,?_⟩;have hm:=PySem.mem_of_lookup z
  unfold bz at hm;obtain⟨y,hy,e2⟩:=List.mem_map.mp hm
  cases e2;exact hy
 ·exact .inr z
theorem ue(I:Inv X pins σ H s)(hc:X.calm=true)(S:dX X scope xs ys is){N':List Str}{fp:List Addr}{C:Addr}(hC:s.heap.objs.size≤C)(hf:∀b∈fp,du X pins H b)(C0:∀b∈fp,b<s.heap.objs.size):
 (bQ X N' scope (bz X.env ys) fp s H C).Ok where
 mod:=I.ok.mod
 kind:=S.kind
 glob:=I.ok.glob
 blt:=I.ok.blt
 above:=hC
 inj:=fun x y c h1 h2=>by
  rcases ft I S hC h1 with z1|z1
  ·rcases ft I S hC h2 with z2|z2
   ·exact I.ok.inj x y c z1.1 z2.1
   ·exact absurd z1.2.1 (Nat.not_lt.mpr (Nat.le_trans hC (Nat.le_of_succ_le z2.2)))
  ·refine nV scope.names (C+1) (bz X.env ys) (fun p hp=>?_) z1.2 (PySem.mem_of_lookup h1) (PySem.mem_of_lookup h2);unfold bz at hp;obtain⟨y,hy,rfl⟩:=List.mem_map.mp hp
   obtain⟨c',gq⟩:=Option.isSome_iff_exists.mp (List.all_eq_true.mp S.cells y hy)
   obtain⟨v,q⟩:=I.cell y c' gq
   dsimp only;rw [gq];exact Nat.lt_succ_of_le (Nat.le_trans (Nat.le_of_lt q.lt) hC)
 has:=fun x hx=>by
  have vp:(relabel scope X.env).names.lookup x=some .cell∨(relabel scope X.env).names.lookup x=some .free:=hx
  have:∃k',(x,k')∈scope.names∧(k'=.cell∨k'=.free):=by
   rcases vp with z|z
   ·exact iW z (.inl rfl)
   ·exact iW z (.inr rfl)
  obtain⟨k',hm,hk⟩:=this
  have cv:=List.all_eq_true.mp S.cov _ hm
  rw [Bool.and_eq_true,Bool.or_eq_true,Bool.or_eq_true] at cv;rcases hk with z|z
  ·subst z;exact Option.isSome_iff_exists.mp (PySem.W.cellsFrom_some _ _ _ (.inl (S.ownL hm).1))
  ·rcases cv.2 with q|q
   ·exact absurd z (of_decide_eq_true q)
   ·refine Option.isSome_iff_exists.mp (PySem.W.cellsFrom_some _ _ _ (.inr ?_));obtain⟨c,e⟩:=ir (env:=X.env) (List.contains_iff_mem.mp q)
    rw [e];rfl
 cab:=fun x c h e=>by
  have hm:(x,NameKind.cell)∈scope.names:=PySem.mem_of_lookup (eq_of_beq h)
  rcases ft I S hC e with z|z
  ·exact absurd z.2.2 (S.ownL hm).2
  ·exact Nat.le_trans hC (Nat.le_of_succ_le z.2)
 hd:=fun _=>I.ok.hd hc
 frames:=I.ok.frames
 stk:=.inl rfl
 exf:=fun b hb=>⟨Nat.ne_of_lt (Nat.lt_of_lt_of_le (C0 b hb) hC),fun x c h=>(ft I S hC h).elim (fun z=>(hf b hb).2.2.2.2.1 x c z.1) fun z q=>absurd (C0 b hb) (Nat.not_lt.mpr (q▸Nat.le_trans hC (Nat.le_of_succ_le z.2)))⟩
 bs:=fun b o e=>I.bs b o e
 bsz:=Nat.le_trans I.ok.bsz I.sz
 noex:=fun b o e hb=>by
  rcases(hf b hb).2.2.2.1 with z|z
  ·exact I.ok.noex b o e z
  ·exact absurd (Nat.lt_of_lt_of_le (Heap.lt_size e) (Nat.le_trans I.ok.bsz z)) (Nat.lt_irrefl _)
 exfs:=fun b hb hs=>(List.mem_cons.mp (I.stkSub b hs)).elim (hf b hb).2.1 (hf b hb).2.2.1
 funs:=I.stack
 frf:=fun b hb=>I.stkFree b hb
theorem sW{N:List Str}:∀{is:List Nat} {ys:List Str},is.map (fun i=>N[i]?)=ys.map some→∀(j:Nat) (y:Str) (v:V),ys[j]?=some y→(xS σ is)[j]?=some (some v)→∃i:Nat,N[i]?=some y∧σ[i]?=some (some v)
 |[],[],_,_,_,_,h,_=>by simp at h
 |[],_::_,h,_,_,_,_,_=>by simp at h
 |_::_,[],h,_,_,_,_,_=>by simp at h
 |i::is,y0::ys,h,0,y,v,h1,h2=>by
  rw [List.map_cons,List.map_cons] at h;have h0:=(List.cons.inj h).1
  simp only [List.getElem?_cons_zero,Option.some.injEq] at h1;subst h1;refine⟨i,h0,?_⟩;unfold xS at h2;simp only [List.map_cons,List.getElem?_cons_zero,Option.some.injEq] at h2;exact Option.join_eq_some_iff.mp h2
 |i::is,y0::ys,h,j+1,y,v,h1,h2=>by
  rw [List.map_cons,List.map_cons] at h;refine sW (is:=is) (ys:=ys) (List.cons.inj h).2 j y v (by simpa using h1) ?_;unfold xS at h2⊢
  simpa using h2
abbrev lobj(aq:List Value)(n:Nat):Obj:={cls:=.type "list",data:=.seq aq.toArray n}
theorem vh(aq:List Value)(n:Nat)(v:Option Value):(lobj aq n).data≠.cell v:=fun z=>by cases z
abbrev tests(ifs:List Expr)(env:Env):Sem Bool:=forIn ifs true fun c r=>if r=true then do let ok←isTrue c env (eval c env);pure (ForInStep.yield ok) else pure (ForInStep.yield r)
theorem nD{prog:Program}{w:World}{A:Around}{R:Result→Shared→Prop}{s:Shared}{elt target iter:Expr}{ifs:List Expr}{scope:Scope}{pos:Pos}{it acc:Value}{env:Env}(I:Nat→Shared→Prop)
 (turn:∀n s,I n s→wpAny (model prog w) A (pyNext it) (fun r s₁=>match r with
  |none=>R (.ok .next) s₁
  |some v=>wpAny (model prog w) A (letOwnedTupleGo target it v) (fun _ s₁'=>wpAny (model prog w) A (assign target env v) (fun _ s₂=>
   wpAny (model prog w) A (tests ifs env) (fun ok s₃=>if ok=true then wpAny (model prog w) A (eval elt env) (fun x s₄=>
    wpAny (model prog w) A (call (.builtin "list.append") [acc,x]) (fun _ s₅=>∃m,m<n∧I m s₅) (notedBy (model prog w) A env fun e s'=>R (.error e) s') s₄) (notedBy (model prog w) A env fun e s'=>R (.error e) s') s₃
    else∃m,m<n∧I m s₃) (notedBy (model prog w) A env fun e s'=>R (.error e) s') s₂)
   (notedBy (model prog w) A env fun e s'=>R (.error e) s') s₁') (notedBy (model prog w) A env fun e s'=>R (.error e) s') s₁) (notedBy (model prog w) A env fun e s'=>R (.error e) s') s)
 (n:Nat) (h:I n s):
 codeAny (model prog w) A (.compLoop (.ListComp elt [⟨target,iter,ifs,0⟩] scope pos) 0 it acc env) R s:=by
 refine codeAny_loop rfl I (fun n s hI=>?_) n h;show wpAny _ A ((compTurn (.ListComp elt [⟨target,iter,ifs,0⟩] scope pos) 0 it acc env).onRaise (fun x=>do noteFrame x env;theTreesLotGoes x)) _ _ s;refine wpAny_noted ?_;rw [compTurn_list];refine wpAny_bind (wpAny_standAt (wpAny_bind (wpAny_mono (turn n s hI) (fun r s₁ h₁=>?_) fun _ _ h'=>h')))
 cases r with
 |none=>exact wpAny_pure h₁
 |some v=>
  refine wpAny_bind (wpAny_mono h₁ (fun _ s₁' h₁'=>?_) fun _ _ h'=>h')
  refine wpAny_bind (wpAny_mono h₁' (fun _ s₂ h₂=>wpAny_bind (wpAny_mono h₂ (fun ok s₃ h₃=>?_) fun _ _ h'=>h')) fun _ _ h'=>h')
  cases ok with
  |false=>exact wpAny_pure ⟨rfl,h₃⟩
  |true=>exact wpAny_bind (wpAny_bind (wpAny_mono h₃ (fun x s₄ h₄=>wpAny_bind (wpAny_mono h₄ (fun _ s₅ h₅=>wpAny_pure (wpAny_pure ⟨rfl,h₅⟩)) fun _ _ h'=>h')) fun _ _ h'=>h'))
def JL(X:Cx)(ifs:List Expr)(t:TT):Prop:=
 ∀(pins:List (Addr×Obj)) (s:Shared) (σ:St) (H:Hp) (Q:Bool→Hp→Prop),Inv X pins σ H s→t σ H Q→wpAny (model X.prog X.w) X.A (tests ifs X.env) (TP X pins σ Q) X.xe s
theorem sy{X:Cx}:JL X [] (fun _ H q=>q true H):=fun _ _ _ H _ I h=>wpAny_tests_nil ⟨H,I,h⟩
theorem rN{X:Cx}{e:Expr}{t:TT}(h:PT X e t):JL X [e] t:=fun pins s σ H Q I z=>wpAny_tests_one (h pins s σ H Q I z)
def Gi(J:It)(k:Nat)(g:TG)(te:TE)(fs:St)(Q:VK)(H1:Hp):Prop:=∃(n:Nat) (W:Nat→List V→St→Hp→Prop),W 0 [] (List.replicate k none++fs) H1∧
 ∀i ys σ' H',W i ys σ' H'→ys.length<sizeLine∧((J.stop i H'∧∀p,H' p=none→Q (.ref p) (upd H' p (.lst ys)))∨
  (J.go i H'∧i<n∧∀x kZ,J.yld i H' x kZ→g x σ' kZ fun σ2 H2=>te σ2 H2 fun y H3=>W (i+1) (ys++[y]) σ2 H3))
noncomputable def xr(wi:TI)(k:Nat)(g:TG)(te:TE)(is:List Nat):TE:=fun σ H Q=>wi σ H fun J H1=>Gi J k g te (xS σ is) Q H1
def yY(J:It)(k:Nat)(g:TG)(tt:TT)(te:TE)(fs:St)(Q:VK)(H1:Hp):Prop:=∃(n:Nat) (W:Nat→List V→St→Hp→Prop),W 0 [] (List.replicate k none++fs) H1∧
 ∀i ys σ' H',W i ys σ' H'→ys.length<sizeLine∧((J.stop i H'∧∀p,H' p=none→Q (.ref p) (upd H' p (.lst ys)))∨
  (J.go i H'∧i<n∧∀x kZ,J.yld i H' x kZ→g x σ' kZ fun σ2 H2=>tt σ2 H2 fun b H3=>if b=true then te σ2 H3 (fun y H4=>W (i+1) (ys++[y]) σ2 H4) else W (i+1) ys σ2 H3))
noncomputable def jf(wi:TI)(k:Nat)(g:TG)(tt:TT)(te:TE)(is:List Nat):TE:=fun σ H Q=>wi σ H fun J H1=>yY J k g tt te (xS σ is) Q H1
theorem fX{elt tg iter:Expr}{ifs:List Expr}{pos pp:Pos}{wi:TI}{g:TG}{te:TE}{tt:TT}{use:Option (Value→Sem Unit)}{QQ:Value→Shared→Prop}{Q:VK}(hc:X.calm=true)(S:dX X scope xs ys is)(hi:PI X tg iter wi)
 (hg:∀fp s1 H1 C,PG (bQ X (xs++ys) scope (bz X.env ys) fp s1 H1 C) tg g) (ht:∀fp s1 H1 C,JL (bQ X (xs++ys) scope (bz X.env ys) fp s1 H1 C) ifs tt) (he:∀fp s1 H1 C,PE (bQ X (xs++ys) scope (bz X.env ys) fp s1 H1 C) elt te)
 (hs:∀x,foldedSetIterable iter X.env x=pure x) (I:Inv X pins σ H s) (h:jf wi xs.length g tt te is σ H Q)
 (fin:∀(D C:Addr) (s4:Shared) (H4:Hp) (m:Str→Option Value),Inv X pins σ H4 s4→s4.heap.Ns C m→du X pins H4 C→Q (.ref D) H4→compPost (model X.prog X.w) X.A X.xe use QQ (.ref D) C (.ok .next) s4):
 wpAny (model X.prog X.w) X.A (comprehension (.ListComp elt [⟨tg,iter,ifs,0⟩] scope pos) scope X.env pp (newList []) false (eval iter X.env) use) QQ X.xe s:=by
 have Dv:∀x∈scope.names,x.2=.local→scope.names.lookup x.1=some .local:=fun x hx hl=>by
  have q:=List.all_eq_true.mp S.names x hx
  rw [Bool.or_eq_true] at q;rcases q with q|q
  ·exact absurd hl (of_decide_eq_true q)
  ·exact of_decide_eq_true q
 refine wpAny_comprehension_free (use:=use) (Q:=QQ) (g:=⟨tg,iter,ifs,0⟩) (gs:=[]) rfl hs S.clos S.kind Dv (bC (hi pins s σ H _ I h) fun xv s0 h0=>bC h0 fun JT s1 h1=>?_)
 obtain⟨it,fp,tn,J,H1,rfl,I1,T,st1,f1,n,W,w0,turn⟩:=h1
 refine wpAny_newObj_type (qF ?_);dsimp only;generalize hH2:s1.heap.push {cls:=.type "list",dict:=none,data:=.seq ([]:List Value).toArray}=G2
 generalize hh₁:pushCells (G2.push {cls:=.type "dict",data:=.dict #[]}) scope.names=h₁
 have Ji:∀b o,(G2.push {cls:=.type "dict",data:=.dict #[]}).get? b=some o→h₁.get? b=some o:=fun b o e=>by rw [←hh₁];exact pushCells_keeps _ _ b o e
 have hns₁:h₁.Ns G2.objs.size fun _=>none:=(Heap.Ns.new G2 (.type "dict")).keeps Ji
 have KS:G2.objs.size=s1.heap.objs.size+1:=by rw [←hH2,Heap.size_push]
 have lh:s1.heap.objs.size≤G2.objs.size:=by rw [KS];exact Nat.le_succ _
 have Hk:s1.heap.objs.size≠G2.objs.size:=by rw [KS];exact Nat.ne_of_lt (Nat.lt_succ_self _)
 have old:∀b o,s1.heap.get? b=some o→h₁.get? b=some o:=fun b o e=>Ji b o (Heap.get?_push_of_some _ (hH2▸Heap.get?_push_of_some _ e))
 have jl:h₁.get? s1.heap.objs.size=some (lobj [] 0):=Ji _ _ (Heap.get?_push_of_some _ (hH2▸Heap.get?_push_size _ rfl))
 have C0:∀b∈fp,b<s1.heap.objs.size:=fun b hb=>by
  obtain⟨o,e,_⟩:=T.obj _ _ st1 b hb
  exact Heap.lt_size e
 generalize hY:bQ X (xs++ys) scope (bz X.env ys) fp s1 H1 G2.objs.size=Y
 have NQ:Y.Ok:=by rw [←hY];exact ue I1 hc S lh f1 C0
 have KA:∀b∈fp,s1.heap.objs.size≠b:=fun b hb=>Ne.symm (Nat.ne_of_lt (C0 b hb))
 have J9:∀b,b∈Y.fs→b=X.env.locals∨b∈X.fs:=fun b hb=>by
  rw [←hY] at hb;exact List.mem_cons.mp (I1.stkSub b hb)
 have HW:∀b∈Y.fs,b<s1.heap.objs.size:=fun b hb=>by
  rw [←hY] at hb;obtain⟨_,o,ho,_⟩:=I1.stack.mem hb
  exact Heap.lt_size ho
 have IW:s1.heap.objs.size∉Y.fs:=fun z=>Nat.lt_irrefl _ (HW _ z)
 have DI:Y.env.locals=G2.objs.size:=by rw [←hY];rfl
 have Hj:∀x c,Y.env.cells.lookup x=some c→(X.env.cells.lookup x=some c∧c<s1.heap.objs.size∧x∈ys)∨((x,NameKind.cell)∈scope.names∧G2.objs.size+1≤c):=fun x c e=>by
  rw [←hY] at e;exact ft I1 S lh e
 have Oj:∀x c,Y.env.cells.lookup x=some c→G2.objs.size+1≤c→h₁.IsCell c none:=fun x c e hle=>by
  rw [←hY] at e;have hm:(x,c)∈cellsFrom (G2.objs.size+1) scope.names []:=BR scope.names _ _ (PySem.mem_of_lookup e) fun p hp=>by
   unfold bz at hp;obtain⟨y,hy,rfl⟩:=List.mem_map.mp hp
   obtain⟨c',gq⟩:=Option.isSome_iff_exists.mp (List.all_eq_true.mp S.cells y hy)
   obtain⟨v,q⟩:=I1.cell y c' gq
   dsimp only;rw [gq];exact Nat.ne_of_lt (Nat.lt_of_lt_of_le q.lt (Nat.le_trans lh (Nat.le_of_succ_le hle)))
  have ck:=cellsFrom_ok scope.names (G2.push {cls:=.type "dict",data:=.dict #[]}) 0 [] ⟨(fun _ _ z=>nomatch z),.nil⟩ (Nat.zero_le _)
  rw [Heap.size_push,hh₁] at ck;exact(ck.empty x c hm).1
 have Nh:∀x c,Y.env.cells.lookup x=some c→c≠s1.heap.objs.size:=fun x c e=>(Hj x c e).elim (fun z=>Nat.ne_of_lt z.2.1) fun z=>Ne.symm (Nat.ne_of_lt (Nat.lt_of_le_of_lt lh z.2))
 have wu:Y.pn=[]:=by rw [←hY];rfl
 have Ge:Y.ex=fp:=by rw [←hY];rfl
 have G8:Y.s₀=s1:=by rw [←hY];rfl
 have Ky:Y.H₀=H1:=by rw [←hY];rfl
 have F6:Y.prog=X.prog:=by rw [←hY];rfl
 have GY:Y.w=X.w:=by rw [←hY];rfl
 have LU:Y.K=X.K:=by rw [←hY];rfl
 have J0:Y.A=X.A:=by rw [←hY];rfl
 have M5:compEnvC scope (cellsFrom (G2.objs.size+1) scope.names (bz X.env ys)) G2.objs.size X.env=Y.env:=by rw [←hY];rfl
 have FE:Y.calm=true:=by rw [←hY];rfl
 have Cp:Y.xe=fun _ _=>False:=by rw [←hY];rfl
 have EO:Y.fs=d0 X.stack:=by rw [←hY];rfl
 have Gb:∀{H':Hp} {s':Shared} {aq:List Value} {k:Nat},s'.heap.get? s1.heap.objs.size=some (lobj aq k)→H' s1.heap.objs.size=none→∀p∈[(s1.heap.objs.size,lobj aq k)],s'.heap.get? p.1=some p.2∧H' p.1=none∧p.1≠Y.env.locals∧p.1∉Y.fs∧∀v,p.2.data≠.cell v:=
  fun{H' s' aq k} e hn p hp=>by
   obtain rfl:=List.mem_singleton.mp hp
   exact⟨e,hn,by rw [DI];exact Hk,IW,fun v=>vh aq k v⟩
 have JP:∀{H':Hp} {aq:List Value} {k:Nat},(∀b∈fp,H' b=none)→∀b∈fp,du Y [(s1.heap.objs.size,lobj aq k)] H' b:=fun{H' aq k} hn b hb=>
  ⟨hn b hb,by rw [DI];exact Nat.ne_of_lt (Nat.lt_of_lt_of_le (C0 b hb) lh),fun z=>(J9 b z).elim (f1 b hb).2.1 (f1 b hb).2.2.1,.inl (by rw [Ge];exact hb),
   fun x c e=>(Hj x c e).elim (fun z=>(f1 b hb).2.2.2.2.1 x c z.1) (fun z q=>absurd (C0 b hb) (Nat.not_lt.mpr (q▸Nat.le_trans lh (Nat.le_of_succ_le z.2)))),fun p hp=>by
    rw [wu,List.nil_append] at hp;obtain rfl:=List.mem_singleton.mp hp
    exact KA b hb⟩
 have Gm:H1 s1.heap.objs.size=none:=I1.hok.fresh (Nat.le_refl _)
 have I2:∀tk,Inv Y [(s1.heap.objs.size,lobj [] 0)] (List.replicate xs.length none++xS σ is) H1 {s1 with heap:=h₁,toks:=tk}:=fun tk=>by
  refine⟨NQ,by rw [G8],I1.bare,by rw [G8,Ky];exact Un.kept old,⟨_,by rw [DI];exact hns₁,fun i x v e1 e2 e3=>?_⟩,fun x c e=>?_,?_,fun x c e=>(Hj x c e).elim (fun z=>I1.freeC x c z.1) (fun z=>I1.hok.fresh (Nat.le_trans lh (Nat.le_of_succ_le z.2))),fun p hp=>?_,by rw [F6,GY];exact I1.hok.kept old,?_⟩
  ·
   have Kb:Y.N=xs++ys:=by rw [←hY];rfl
   rw [Kb] at e1
   by_cases bW:i<xs.length
   ·rw [List.getElem?_append_left (by rw [List.length_replicate];exact bW),List.getElem?_replicate,if_pos bW] at e2;cases e2
   ·have CZ:xs.length≤i:=Nat.not_lt.mp bW
    rw [List.getElem?_append_right (by rw [List.length_replicate];exact CZ),List.length_replicate] at e2;rw [List.getElem?_append_right CZ] at e1;obtain⟨i0,h0,h1⟩:=sW S.slots _ x v e1 e2
    have hm:x∈ys:=List.mem_of_getElem? e1
    have kx:X.env.kindOf x=some .cell:=of_decide_eq_true (List.all_eq_true.mp S.kX x hm)
    have ky:(relabel scope X.env).names.lookup x=some .cell:=of_decide_eq_true (List.all_eq_true.mp S.kY x hm)
    obtain⟨m,_,hl⟩:=I1.loc
    obtain⟨u,ru,lk⟩:=hl i0 x v h0 h1 (.inr (.inl kx))
    refine⟨u,ru,.inr ⟨.inl (by rw [←hY];exact ky),?_⟩⟩;rcases lk with⟨z,_⟩|⟨_,c,hc1,hc2⟩
    ·rw [kx] at z;cases z
    ·obtain⟨c',gq⟩:=ir (env:=X.env) hm
     have Ha:=dS S.cells x c' gq
     rw [hc1] at Ha;cases Ha;refine⟨c,by rw [←hY];exact(nc _ _ _ fun z=>(S.ownL z).2 hm).trans gq,?_⟩
     obtain⟨o,ho,hd⟩:=hc2
     exact⟨o,old _ _ ho,hd⟩
  ·rcases Hj x c e with z|z
   ·obtain⟨v,o,ho,hd⟩:=I1.cell x c z.1
    exact⟨v,o,old _ _ ho,hd⟩
   ·exact⟨none,Oj x c e z.2⟩
  ·rw [DI];exact I1.hok.fresh lh
  ·rw [wu,List.nil_append] at hp;exact Gb (s':={s1 with heap:=h₁,toks:=tk}) jl Gm p hp
  ·have Kb:Y.N=xs++ys:=by rw [←hY];rfl
   have hl:=congrArg List.length S.slots
   rw [List.length_map,List.length_map] at hl;rw [Kb,List.length_append,List.length_append,List.length_replicate];unfold xS;rw [List.length_map,hl]
 have loop:∀s₃:Shared,s₃={s1 with heap:=h₁}→
  codeAny (model X.prog X.w) X.A (.compLoop (.ListComp elt [⟨tg,iter,ifs,0⟩] scope pos) 0 (.ref it) (.ref s1.heap.objs.size) (compEnvC scope (cellsFrom (G2.objs.size+1) scope.names (bz X.env ys)) G2.objs.size X.env))
   (compPost (model X.prog X.w) X.A X.xe use QQ (.ref s1.heap.objs.size) G2.objs.size) s₃:=by
  rintro s₃ rfl
  rw [M5];refine nD (fun k s'=>∃i made σ' H' aq c,Inv Y [(s1.heap.objs.size,lobj aq c)] σ' H' s'∧tn i s'.heap∧(∀b∈fp,H' b=none)∧Vals made aq∧k=n-i∧W i made σ' H') ?_ n
   ⟨0,[],_,H1,[],0,I2 _,T.keep _ _ _ st1 fun b _ o e=>old b o e,fun b hb=>(f1 b hb).1,.nil,rfl,w0⟩
  rintro k s' ⟨i,made,σ',H',aq,c,I3,st3,fr3,rv,rfl,w3⟩
  obtain⟨hz,tw⟩:=turn i made σ' H' w3
  have pD:=I3.pin (s1.heap.objs.size,lobj aq c) (by rw [wu];exact List.mem_singleton.mpr rfl)
  rcases tw with⟨stop,hq⟩|⟨go,Ll,step⟩
  ·rw [←J0];refine bC (T.done Y F6 GY LU FE i _ s' σ' H' _ I3 (JP fr3) st3 stop) fun r s4 ⟨hr,I4⟩=>?_
   subst hr;obtain⟨m,hn4,_⟩:=I4.loc
   rw [DI] at hn4;have JW:=I4.pin (s1.heap.objs.size,lobj aq c) (by rw [wu];exact List.mem_singleton.mpr rfl)
   have kp:∀b o,b≠G2.objs.size→s4.heap.get? b=some o→s4.heap.get? b=some o:=fun b o hb e=>e
   have JK:∀{b o},s1.heap.get? b=some o→b≠G2.objs.size:=fun{b o} e=>Nat.ne_of_lt (Nat.lt_of_lt_of_le (Heap.lt_size e) lh)
   have eW:=I4.base
   rw [G8,Ky,Ge,EO] at eW;have Iv:∀{b o},H1 b=some o→b≠s1.heap.objs.size:=fun{b o} e=>Nat.ne_of_lt (I1.hok.lt e)
   have u:Un (d0 X.stack) fp H1 (upd H' s1.heap.objs.size (.lst made)) s1.heap s4.heap:=by
    refine⟨fun b o e n hb hx=>kp b o (JK e) (eW.keep b o e n hb hx),fun b o e n hb hx=>?_,fun b o e n hx=>?_,fun b o e hx=>?_,fun b xs e=>?_,fun b o u e=>?_,fun b ps e=>?_⟩
    ·obtain⟨sl,q⟩:=eW.slot b o e n hb hx
     exact⟨sl,kp b _ (JK e) q⟩
    ·rw [aa (Nat.ne_of_lt (Heap.lt_size e))];exact eW.free b o e n hx
    ·obtain⟨o',q⟩:=eW.there b o e hx
     exact⟨o',kp b _ (JK e) q⟩
    ·rw [aa (Iv e)];exact eW.tups b xs e
    ·rw [aa (Iv e)];exact eW.frzs b o u e
    ·obtain⟨more,q⟩:=eW.tbls b ps e
     exact⟨more,by rw [aa (Iv e)];exact q⟩
   have Kt:H' G2.objs.size=none:=by rw [←DI];exact I4.free
   have Ad:dN X.prog X.w (upd H' s1.heap.objs.size (.lst made)) s4.heap:=fun b o e=>by
    by_cases hb:b=s1.heap.objs.size
    ·subst hb;rw [ag] at e;cases e;exact⟨Nat.le_of_lt hz,aq,c,rv,kp _ _ Hk JW.1⟩
    ·rw [aa hb] at e;have x4:=I4.hok b o e
     rw [F6,GY] at x4;have Cq:∀b' u,H' b'=some u→b'≠G2.objs.size:=fun b' u q z=>by rw [z,Kt] at q;cases q
     have KL:∀b' u,H' b'=some u→b'≠s1.heap.objs.size:=fun b' u q z=>by rw [z,JW.2.1] at q;cases q
     refine x4.stay (fun b' u gL q=>kp b' u ?_ q) (fun b' q=>?_) fun b' xs q=>?_
     ·rcases gL with z|z
      ·rw [z];exact Cq b o e
      ·exact Cq b' _ z
     ·rw [aa (KL b' _ q)];exact q
     ·rw [aa (KL b' _ q)];exact q
   have I5:Inv X pins σ (upd H' s1.heap.objs.size (.lst made)) s4:=I1.call' (by show s4.os=s1.os;rw [I4.os,G8]) u Ad I4.bare fun b hb=>⟨(f1 b hb).2.2.2.1,(f1 b hb).2.1,(f1 b hb).2.2.2.2.1,(f1 b hb).2.2.2.2.2⟩
   dsimp only;rw [J0];exact fin s1.heap.objs.size G2.objs.size s4 _ m I5 hn4 (I1.fpOk lh (by rw [aa (Ne.symm Hk)];exact Kt)) (hq _ JW.2.1)
  ·rw [←J0];refine bC (T.item Y F6 GY LU FE i _ s' σ' H' _ I3 (JP fr3) st3 go) fun r s4 ⟨u,hr,h4⟩=>?_
   subst hr;dsimp only;refine bC h4 fun _ s5 ⟨x,H5,I5,r5,y5,st5,fr5⟩=>?_
   have Ir:=I5.pinned (JP fr5) (T.obj _ _ st5)
   have KW:=hg fp s1 H1 G2.objs.size
   have LJ:=he fp s1 H1 G2.objs.size
   have Kx:=ht fp s1 H1 G2.objs.size
   rw [hY] at KW LJ Kx;rw [←F6,←GY];refine wpAny_mono (KW _ s5 σ' H5 x u _ Ir r5 (step x H5 y5)) (fun _ s6 ⟨σ6,H6,I6,q6⟩=>?_) (fun _ _ f=>by rw [Cp] at f;exact f.elim);refine wpAny_mono (Kx _ s6 σ6 H6 _ I6 q6) (fun okb sT ⟨HT,IT,qT⟩=>?_) (fun _ _ f=>by rw [Cp] at f;exact f.elim);have Ot:=IT.pin (s1.heap.objs.size,lobj aq c) (List.mem_append_right _ (List.mem_append_left _ (List.mem_singleton.mpr rfl)))
   have MG:tn (i+1) sT.heap:=T.keep _ _ _ st5 fun b hb o e=>(IT.pin (b,o) (List.mem_append_right _ (List.mem_append_right _ (cW hb e)))).1
   cases okb with
   |false=>
    refine⟨n-(i+1),by omega,i+1,made,σ6,HT,aq,c,IT.unpinned,MG,fun b hb=>?_,rv,rfl,qT⟩
    obtain⟨o,e,d⟩:=T.obj _ _ st5 b hb
    exact(IT.pin (b,o) (List.mem_append_right _ (List.mem_append_right _ (cW hb e)))).2.1
   |true=>
   refine wpAny_mono (LJ _ sT σ6 HT _ IT qT) (fun v s7 ⟨y,H7,I7,r7,q7⟩=>?_) (fun _ _ f=>by rw [Cp] at f;exact f.elim);have Jw:=I7.pin (s1.heap.objs.size,lobj aq c) (List.mem_append_right _ (List.mem_append_left _ (List.mem_singleton.mpr rfl)))
   have e7:s7.heap.get? s1.heap.objs.size=some {cls:=.type "list",data:=.seq aq.toArray c}:=Jw.1
   refine append_at (hsz:=by rw [List.size_toArray,←rv.length];exact Nat.le_of_lt hz) e7 fun h' qS Om=>?_
   have I8:Inv Y [] σ6 H7 s7:=I7.pins_of fun _ z=>nomatch z
   have I9:Inv Y [] σ6 H7 {s7 with heap:=h'}:=I8.turned (t':=s7.toks) (it:=s1.heap.objs.size) (fun b o hb e=>qS.extBut b o hb e) Jw.2.1 (by rw [DI];exact Hk) (.inr (by rw [G8];exact Nat.le_refl _))
    (fun x c' e=>Nh x c' e) (fun p hp=>by rw [wu] at hp;cases hp)
   have eD:h'.get? s1.heap.objs.size=some (lobj (aq++[v]) (c+1)):=by rw [Om,List.push_toArray]
   have Me:tn (i+1) s7.heap:=T.keep _ _ _ st5 fun b hb o e=>(I7.pin (b,o) (List.mem_append_right _ (List.mem_append_right _ (cW hb e)))).1
   refine⟨n-(i+1),by omega,i+1,made++[y],σ6,H7,aq++[v],c+1,I9.pins_of (Gb (s':={s7 with heap:=h'}) eD Jw.2.1),T.keep _ _ _ Me fun b hb o e=>qS.extBut b o (Ne.symm (KA b hb)) e,fun b hb=>?_,rv.append (.cons r7 .nil),rfl,q7⟩
   obtain⟨o,e,d⟩:=T.obj _ _ st5 b hb
   exact(I7.pin (b,o) (List.mem_append_right _ (List.mem_append_right _ (cW hb e)))).2.1
 exact codeAny_compStart_list (loop _ rfl) (T.self _ 0 _ _ _ (T.keep _ _ _ st1 fun b _ o e=>old b o e) (loop _ rfl))
theorem yz{elt tg iter:Expr}{pos:Pos}{wi:TI}{g:TG}{te:TE}(hc:X.calm=true)(S:dX X scope xs ys is)(hi:PI X tg iter wi)
 (hg:∀fp s1 H1 C,PG (bQ X (xs++ys) scope (bz X.env ys) fp s1 H1 C) tg g) (he:∀fp s1 H1 C,PE (bQ X (xs++ys) scope (bz X.env ys) fp s1 H1 C) elt te)
 (hs:∀x,foldedSetIterable iter X.env x=pure x:=by intro _;rfl):
 PE X (.ListComp elt [⟨tg,iter,[],0⟩] scope pos) (xr wi xs.length g te is):=by
 intro pins s σ H Q I h;rw [eval_ListComp];exact fX (use:=none) (Q:=Q) hc S hi hg (fun _ _ _ _=>sy) he hs I h (fun D C s4 H4 m I5 hn ⟨g0,g1,_,g3,g4,g5⟩ q=>⟨m,hn,fun h' qS=>⟨.ref D,H4,I5.turned (t':=s4.toks) (it:=C) (fun b o hb e=>qS.extBut b o hb e) g0 g1 g3 g4 g5,rfl,q⟩⟩)
theorem uH{elt tg iter B3:Expr}{pos:Pos}{wi:TI}{g:TG}{te:TE}{tt:TT}(hc:X.calm=true)(S:dX X scope xs ys is)(hi:PI X tg iter wi)
 (hg:∀fp s1 H1 C,PG (bQ X (xs++ys) scope (bz X.env ys) fp s1 H1 C) tg g) (ht:∀fp s1 H1 C,PT (bQ X (xs++ys) scope (bz X.env ys) fp s1 H1 C) B3 tt) (he:∀fp s1 H1 C,PE (bQ X (xs++ys) scope (bz X.env ys) fp s1 H1 C) elt te)
 (hs:∀x,foldedSetIterable iter X.env x=pure x:=by intro _;rfl):
 PE X (.ListComp elt [⟨tg,iter,[B3],0⟩] scope pos) (jf wi xs.length g tt te is):=by
 intro pins s σ H Q I h;rw [eval_ListComp];exact fX (use:=none) (Q:=Q) hc S hi hg (fun fp s1 H1 C=>rN (ht fp s1 H1 C)) he hs I h (fun D C s4 H4 m I5 hn ⟨g0,g1,_,g3,g4,g5⟩ q=>⟨m,hn,fun h' qS=>⟨.ref D,H4,I5.turned (t':=s4.toks) (it:=C) (fun b o hb e=>qS.extBut b o hb e) g0 g1 g3 g4 g5,rfl,q⟩⟩)
end
end L2
namespace L2
open PySem PySem.Spec PyProof.Rows
theorem bh{H:Hp}{p:Addr}{o:HO}(h:H p=none):ay H (upd H p o):=fun b u e=>by rw [aa (cV e h)];exact e
theorem kj(a:Array Nat):∀(n:Nat) (acc:Array Nat),((List.replicate n a).foldl (·++·) acc).toList=acc.toList++(List.replicate n a.toList).flatten
 |0,acc=>by simp
 |n+1,acc=>by
  rw [List.replicate_succ,List.foldl_cons,kj a n,List.replicate_succ,List.flatten_cons,Array.toList_append,List.append_assoc]
section
variable{X:Cx}
theorem range_all(bs:List Bool):(List.range bs.length).all (fun i=>(bs[i]?).getD true)=bs.all id:=by
 rw [Bool.eq_iff_iff,List.all_eq_true,List.all_eq_true]
 constructor
 ·intro h b hb;obtain⟨i,hi,e⟩:=List.getElem_of_mem hb
  have q:=h i (List.mem_range.mpr hi)
  rw [List.getElem?_eq_getElem hi,Option.getD_some,e] at q;exact q
 ·intro h i hi;have FJ:=List.mem_range.mp hi
  rw [List.getElem?_eq_getElem FJ,Option.getD_some];exact h _ (List.getElem_mem FJ)
theorem xG(hc:X.calm=true):b9 X (.builtin "all") (fun xs H Q=>∃(p:Addr) (bs:List Bool),xs=[.ref p]∧eh X.K H p (bs.map V.bl)∧Q (.bl (bs.all id)) H):=by
 intro pins s σ H xs us Q I r h;obtain⟨p,bs,rfl,hp,q⟩:=h
 obtain⟨u,rfl,ru⟩:=vals1 r
 cases ru;obtain⟨aq,rv,pl,hz⟩:=I.list hp
 have bW:p<s.heap.objs.size:=by obtain⟨_,e,_⟩:=pl.isList;exact Heap.lt_size e
 have hlen:aq.length=bs.length:=by rw [←rv.length,List.length_map]
 refine call_all_walk (wpAny_pyIter_list pl.isList ?_);refine⟨s.heap.objs.size,_,_,aq.toArray.size,_,_,fun i=>(bs[i]?).getD true,rfl,Walks.list (A:=X.A.in1) (I.ok.hd hc) s.heap.objs.size p (Nat.ne_of_lt bW) aq.toArray,⟨⟨_,Heap.get?_push_size _ rfl,rfl,rfl⟩,pl.isList.push _⟩,fun i v s2 Q2 E2 hP hQ=>?_,fun h' tk hk=>?_⟩
 ·have hv:aq[i]?=some v:=by simpa using hP
  have hi:i<bs.length:=by rw [←hlen];exact(List.getElem?_eq_some_iff.mp hv).1
  obtain⟨u,hu,ru⟩:=rv.get (i:=i) (x:=V.bl bs[i]) (by rw [List.getElem?_map,List.getElem?_eq_getElem hi];rfl)
  rw [hv] at hu;cases hu;have e:v=Value.bool bs[i]:=ru
  rw [e];have q2:Q2 ((bs[i]?).getD true) s2:=hQ
  rw [List.getElem?_eq_getElem hi,Option.getD_some] at q2;exact wpAny_truthy_bool q2
 ·rw [List.size_toArray,hlen,range_all];exact⟨.bl (bs.all id),H,I.kept fun b o e=>hk b o (by simp;exact Nat.ne_of_lt (Heap.lt_size e)) (Heap.get?_push_of_some _ e),rfl,q⟩
theorem pE:eO X (compareOp .IsNot) (fun x y H Q=>∃c d,x=.bl c∧y=.bl d∧Q (.bl (c !=d)) H):=by
 intro pins s σ H x y v u Q I rx ry h;obtain⟨c,d,rfl,rfl,q⟩:=h
 cases rx;cases ry;exact isnot_bool (qY I q rfl)
def CV(x:Str)(n:Nat):Str:=⟨(List.replicate n x.cps).foldl (·++·) #[]⟩
theorem qr:eO X (binaryOp .Mult) (fun x y H Q=>∃z n,x=.str z∧y=.int n∧1<n∧n<1000∧0<z.length∧z.length<1000∧Q (.str (CV z n.toNat)) H):=by
 intro pins s σ H x y v u Q I rx ry h;obtain⟨z,n,rfl,rfl,h1,h2,h3,h4,q⟩:=h
 obtain⟨t,rfl⟩:=rx
 obtain⟨t',rfl⟩:=ry
 have e1:¬n<1:=by omega
 have e2:(n==1||z.length==0)=false:=by
  rw [Bool.or_eq_false_iff];exact⟨beq_eq_false_iff_ne.mpr (by omega),beq_eq_false_iff_ne.mpr (by omega)⟩
 have hb:z.length*n.toNat≤1000*1000:=Nat.mul_le_mul (by omega) (by omega)
 refine PySem.P.mul_str (by rw [decide_eq_false (by omega),decide_eq_false (by omega)];rfl) (fun _ _=>?_) (fun _ _=>?_) ?_
 ·have:(2^63-1:Int)/n≥(2^63-1)/1000:=by
   rw [ge_iff_le,Int.le_ediv_iff_mul_le (by omega)];have:(2^63-1:Int)/1000*n≤(2^63-1:Int)/1000*1000:=Int.mul_le_mul_of_nonneg_left (by omega) (by decide)
   omega
  omega
 ·show Builtin.Str.tooLong _=false
  unfold Builtin.Str.tooLong;have Oq:(1000000:Nat)≤sizeLine:=by decide
  exact decide_eq_false (by omega)
 ·rw [if_neg e1,if_neg (by rw [e2];exact zzf)];refine⟨?_,⟨.str (CV z n.toNat),H,I.tok _,⟨_,rfl⟩,q⟩⟩;have e:=congrArg List.length (kj z.cps n.toNat #[])
  rw [List.length_append,len_rep,Array.length_toList,Array.length_toList] at e;have e':((List.replicate n.toNat z.cps).foldl (·++·) #[]).size=n.toNat*z.length:=by rw [e];simp [Str.length]
  show((List.replicate n.toNat z.cps).foldl (·++·) #[]).size≤sizeLine
  rw [e',Nat.mul_comm];exact Nat.le_trans hb (by decide)
end
end L2
namespace Cw
open PySem L2
def sgn(c:Nat):Bool:=c==35||(48≤c&&c≤57)
def L8:V→Bool
 |.str z=>decide (1≤z.cps.toList.length)&&decide (z.cps.toList.length≤12)&&z.cps.toList.all sgn
 |_=>false
def FC:V→Nat
 |.str z=>z.cps.toList.length
 |_=>0
section
variable{K:PySem.W.Frag}
abbrev kit(K:PySem.W.Frag)(t n:String)(b:Bool):Prop:=PySem.W.kitOne K (.type t) (.type n)=some b
theorem kit_same{K:PySem.W.Frag}(t:String):kit K t t true:=by unfold kit PySem.W.kitOne;rw [if_pos (by simp)]
theorem kit_of{t n:String}{b:Bool}(h0:(Value.type t==Value.type n)=false)(h1:PySem.W.kitMeta n=true)(h2:(fastBuiltinMro t).map (·.contains (Value.type n))=some b):kit K t n b:=by
 unfold kit PySem.W.kitOne;rw [if_neg (by rw [h0];exact zzf)];show(if PySem.W.kitMeta n=true then PySem.W.subIn K (.type t) (.type n) else none)=some b
 rw [if_pos h1];exact h2
end
abbrev KZ:Str:="#0123456789"
end Cw
namespace L2
open PySem PySem.Spec PyProof.Rows
section
variable{X:Cx}{pos:Pos}
end
end L2
namespace L2
open PySem PySem.Spec PyProof.Rows
structure BS(K:PySem.W.Frag)(C:Addr):Prop where
 ga:PySem.W.findIn K (.ref C) "__getattribute__"=some (some (.builtin "BaseException.__getattribute__"))
 hk:PySem.W.findIn K (.ref C) "__getattr__"=some none
 cl:PySem.W.findIn K (.ref C) "__class__"=some (some (.builtin "object.__class__"))
 mo:PySem.W.mroIn K C (.type "object")=some true
 mb:PySem.W.mroIn K C (.type "BaseException")=some true
 is:(PySem.W.clsIn K C).isSome=true
section
variable{prog:Program}{w:World}{A:Around}{E:Value→Shared→Prop}{h:Heap}{g:Array GenState}{d:Drawn}{t:Nat}{os:OsState}{x C:Addr}{o:Obj}{K:PySem.W.Frag}
end
section
variable{X:Cx}
end
end L2
namespace L2
open PySem PySem.Spec PyProof.Rows
section
variable{X:Cx}{pins:List (Addr×Obj)}{σ:St}{H:Hp}{s:Shared}
end
end L2
namespace L2
open PySem PySem.Spec PyProof.Rows
section
variable{X:Cx}
end
end L2
namespace L2
open PySem PySem.Spec PyProof.Rows
open PySem.AutoSeq1 (wpAny_loadPart')
theorem iD:fillsNumberSlot (.type "tuple") "mul"=pure false:=
 PySem.fillsNumberSlot_seq (id:="tuple.__mul__") (r:=some (.builtin "tuple.__rmul__")) PySem.F.slot_tuple_mul.lookup (by decide+kernel) PySem.F.slot_tuple_rmul.lookup (by decide+kernel)
theorem ng:seqRepeat? (.type "tuple")=pure (some (.builtin "tuple.__mul__")):=by
 unfold seqRepeat?;rw [PySem.seqSlot_of (T:="tuple") (name:="__mul__") (id:="tuple.__mul__") PySem.F.slot_tuple_mul.lookup (by decide+kernel),PySem.seqSlot_of (T:="tuple") (name:="__rmul__") (id:="tuple.__rmul__") PySem.F.slot_tuple_rmul.lookup (by decide+kernel)]
 rfl
theorem j9(a:Int)(t:Tok)(l:Addr)(items:Array Value)(n:Nat)(dd:Option Addr)(sl:Array (Option Value)):
 Meets (Builtin.«int.__rmul__» ⟨[.int a t,.ref l],[]⟩) (fun _ R s=>s.heap.get? l=some {cls:=.type "tuple",dict:=dd,data:=.seq items n,slots:=sl}∧R (.ok (.ret Value.notImplemented)) s):=
 .of_wp fun prog w A R s h=>by obtain⟨hp,g,d,tk,os⟩:=s;obtain⟨hl,h⟩:=h;wp_walk;exact⟨_,rfl,h⟩
theorem rE(l:Addr)(items:Array Value)(n:Nat)(dd:Option Addr)(sl:Array (Option Value))(x:Int)(u:Tok)(x1:1<x)(x2:x<1000)(i1:0<items.size)(i2:items.size<1000):
 Meets (Builtin.«tuple.__mul__» ⟨[.ref l,.int x u],[]⟩) (fun _ R s=>s.heap.get? l=some {cls:=.type "tuple",dict:=dd,data:=.seq items n,slots:=sl}∧
  R (.ok (.ret (Value.ref s.heap.objs.size))) {s with heap:=s.heap.push {cls:=Value.type "tuple",data:=Data.seq (List.foldl (fun x1 x2=>x1++x2) #[] (List.replicate x.toNat items))},toks:=s.toks}):=
 .of_wp fun prog w A R s h=>by
  obtain⟨hp,g,d,tk,os⟩:=s
  obtain⟨hl,h⟩:=h
  have f1:=PySem.AutoSeq1.idx_int
  have f2:=PySem.AutoSeq1.sub_tuple_tuple
  have ie:items.isEmpty=false:=by
   cases h:items.isEmpty with
   |false=>rfl
   |true=>
    have:=Array.isEmpty_iff.mp h
    subst this;exact absurd i1 (by simp)
  wp_walk using wpAny_loadPart' hl
  refine wpAny_ite_false (decide_eq_false (by rw [Bool.or_eq_true,decide_eq_true_eq,decide_eq_true_eq];omega)) ?_;dsimp only
  wp_walk using wpAny_loadPart' hl
  refine wpAny_ite_false (decide_eq_false (by rw [ie,Bool.false_or,beq_iff_eq];omega)) ?_;refine wpAny_ite_false (decide_eq_false (by rw [ie,Bool.or_false,decide_eq_true_eq];omega)) ?_;have hm:(items.size:Int)*x≤1000*1000:=by
   have e1:(items.size:Int)*x≤1000*x:=Int.mul_le_mul_of_nonneg_right (by omega) (by omega)
   omega
  have Bk:items.size*x.toNat≤1000*1000:=Nat.mul_le_mul (by omega) (by omega)
  have IV:(1000000:Nat)≤sizeLine:=by decide
  have hfs:(List.foldl (fun x1 x2=>x1++x2) #[] (List.replicate x.toNat items)).size≤sizeLine:=by
   have e:=foldl_rep items.toList x.toNat []
   have e':(items.toList).toArray=items:=by simp
   rw [e',List.nil_append] at e;have e2:(List.foldl (fun x1 x2=>x1++x2) #[] (List.replicate x.toNat items))=(List.replicate x.toNat items.toList).flatten.toArray:=e
   rw [e2,List.size_toArray,len_rep,Array.length_toList,Nat.mul_comm];omega
  refine wpAny_ite_false (decide_eq_false (by omega)) ?_;refine wpAny_ite_false (decide_eq_false (by unfold Builtin.Tuple.tupleTooMany;simp;omega)) ?_
  wp_walk
  exact⟨_,rfl,h⟩
theorem A3{X:Cx}:eO X (binaryOp .Mult) (fun x y H Q=>∃a n xs,x=.ref a∧y=.int n∧ez X.K H a xs∧1<n∧n<1000∧0<xs.length∧xs.length<1000∧∀p,H p=none→Q (.ref p) (upd H p (.tup (List.replicate n.toNat xs).flatten))):=by
 intro pins s σ H x y v u Q I rx ry h;obtain⟨a,n,xs,rfl,rfl,ha,h1,h2,h3,h4,q⟩:=h
 cases rx;obtain⟨t,rfl⟩:=ry
 obtain⟨aq,r,p1,_⟩:=I.tuple ha
 have hl:=r.length
 obtain⟨⟨cls,dd,data,sl⟩,ho,hc,k,hd⟩:=id p1
 simp only at hc hd;subst hc hd;have pU:List.foldl (fun x1 x2=>x1++x2) #[] (List.replicate n.toNat aq.toArray)=(List.replicate n.toNat aq).flatten.toArray:=by
  have:=foldl_rep aq n.toNat []
  rw [List.nil_append] at this;exact this
 refine wpAny_binaryOp_repeat_ref (T:="tuple") (U:="int") (by decide) ⟨_,ho,rfl⟩ (fun s'=>typeIs_int s' n t) iD PySem.F.fills_int_mul PySem.F.slot_int_rmul ng PySem.F.slot_int_index.lookup
  (call_meets PySem.F.slot_int_rmul (typeIs_int s n t) PySem.F.entry_int_rmul (PySem.F.args_int_rmul_2 _ _) (j9 n t a aq.toArray k dd sl)
   ⟨ho,rfl,⟨_,ho,rfl⟩,call_meets PySem.F.slot_tuple_mul ⟨_,ho,rfl⟩ PySem.F.entry_tuple_mul (PySem.F.args_tuple_mul_2 _ _) (rE a aq.toArray k dd sl n t h1 h2 (by rw [List.size_toArray];omega) (by rw [List.size_toArray];omega)) ⟨ho,?_⟩⟩)
 rw [pU];have hz:(List.replicate n.toNat xs).flatten.length≤sizeLine:=by
  rw [len_rep];have:n.toNat*xs.length≤1000*1000:=Nat.mul_le_mul (by omega) (by omega)
  have IV:(1000000:Nat)≤sizeLine:=by decide
  omega
 refine⟨.ref s.heap.objs.size,_,I.laid (t':=s.toks) (o:=.tup (List.replicate n.toNat xs).flatten) (fun b ob q=>Heap.get?_push_of_some _ q) (Nat.le_refl _) ?_,rfl,q _ (I.hok.fresh (Nat.le_refl _))⟩;exact⟨hz,_,r.rep n.toNat,IsTup.new _ _⟩
end L2
namespace Cw
open PySem L2
end Cw
namespace L2
open PySem PySem.Spec PyProof.Rows
section
variable{X:Cx}
theorem ni:b9 X (.type "int") (fun xs H Q=>∃z n,xs=[.str z]∧PySem.intText? z=some n∧z.length≤640∧Q (.int n) H):=by
 intro pins s σ H xs us Q I r h;obtain⟨z,n,rfl,h1,h2,q⟩:=h
 obtain⟨u,rfl,t,rfl⟩:=vals1 r
 exact PySem.W.KIN.call_text h1 h2 ⟨.int n,H,I.tok _,⟨_,rfl⟩,q⟩
end
end L2
namespace Cw
open PySem L2
end Cw
namespace L2
open PySem PySem.Spec PyProof.Rows
theorem lN{α β:Type}{R:α→β→Prop}:∀{xs:List α} {ys:List β},Paired R xs ys→∀{i:Nat} {x:α},xs[i]?=some x→∃y,ys[i]?=some y∧R x y
 |_,_,.nil,_,_,h=>by simp at h
 |_,_,.cons r t,0,x,h=>by simp at h;subst h;exact⟨_,rfl,r⟩
 |_,_,.cons r t,i+1,x,h=>by
  obtain⟨y,h1,h2⟩:=lN t (i:=i) (x:=x) (by simpa using h)
  exact⟨y,by simpa using h1,h2⟩
theorem j1{α β:Type}{R:α→β→Prop}:∀{xs:List α} {ys:List β},Paired R xs ys→xs.length=ys.length
 |_,_,.nil=>rfl
 |_,_,.cons _ t=>by simp [j1 t]
section
variable{X:Cx}
theorem iE{vs:List V}{aq:List Value}(r:Vals vs aq){j:Nat}(h:j<aq.toArray.size):∃v,vs[j]?=some v∧RelV v aq.toArray[j]:=by
 have hl:=r.length
 rw [List.size_toArray] at h;have hj:j<vs.length:=by omega
 obtain⟨u,hu,ru⟩:=r.get (i:=j) (x:=vs[j]) (List.getElem?_eq_getElem hj)
 rw [List.getElem?_eq_getElem h] at hu;cases hu;exact⟨_,List.getElem?_eq_getElem hj,by simpa using ru⟩
end
end L2
namespace L2
open PySem PySem.Spec PyProof.Rows
abbrev bA:HO:=.ext fun _=>True
theorem kN{P:Program}{w:World}{H:Hp}{h:Heap}{a:Addr}{o:Obj}(e:h.get? a=some o):bM P w H h a (.frz o bA):=⟨e,trivial,⟨o,e⟩,fun _ _ _ _=>trivial⟩
def withZ(Z:List (Addr×Obj))(H:Hp):Hp:=fun b=>match Z.lookup b with
 |some o=>some (.frz o bA)
 |none=>H b
def aV(Z:List (Addr×Obj))(H:Hp):Hp:=fun b=>match Z.lookup b with
 |some _=>none
 |none=>H b
section
variable{Z:List (Addr×Obj)}{H H':Hp}{b:Addr}{o:Obj}
theorem aW(e:Z.lookup b=some o):withZ Z H b=some (.frz o bA):=by unfold withZ;rw [e]
theorem af(e:Z.lookup b=none):withZ Z H b=H b:=by unfold withZ;rw [e]
theorem eE(e:Z.lookup b=some o):aV Z H b=none:=by unfold aV;rw [e]
theorem aw(e:Z.lookup b=none):aV Z H b=H b:=by unfold aV;rw [e]
theorem dD{u:HO}(e:aV Z H b=some u):Z.lookup b=none∧H b=some u:=by
 cases q:Z.lookup b with
 |none=>rw [aw q] at e;exact⟨rfl,e⟩
 |some o=>rw [eE q] at e;cases e
theorem gJ(h:H b=none):aV Z H b=none:=by
 cases q:Z.lookup b with
 |none=>rw [aw q];exact h
 |some o=>exact eE q
structure qZ(Z:List (Addr×Obj))(H:Hp)(fs:List Addr)(h:Heap):Prop where
 at_:∀b o,Z.lookup b=some o→h.get? b=some o
 no:∀b o,Z.lookup b=some o→H b=none
 fr:∀b o,Z.lookup b=some o→b∉fs
variable{P:Program}{w:World}{fs:List Addr}{h h':Heap}
theorem qZ.hok(z:qZ Z H fs h)(k:dN P w H h):dN P w (withZ Z H) h:=fun b u e=>by
 cases q:Z.lookup b with
 |some o=>rw [aW q] at e;cases e;exact kN (z.at_ b o q)
 |none=>
  rw [af q] at e;have nz:∀c v,H c=some v→Z.lookup c=none:=fun c v hv=>by
   cases y:Z.lookup c with
   |none=>rfl
   |some o=>rw [z.no c o y] at hv;cases hv
  exact(k b u e).stay (fun c v _ r=>r) (fun c r=>by rw [af (nz c _ r)];exact r) fun c xs r=>by rw [af (nz c _ r)];exact r
theorem qZ.un_less(z:qZ Z H fs h)(u:Un fs [] (withZ Z H) H' h h')(k:dN P w H' h'):Un fs [] H (aV Z H') h h'∧dN P w (aV Z H') h':=by
 have zk:∀b o,Z.lookup b=some o→H' b=some (.frz o bA):=fun b o q=>u.frzs b o _ (aW q)
 have zh:∀b o,Z.lookup b=some o→h'.get? b=some o:=fun b o q=>(k b _ (zk b o q)).1
 have nz:∀c v,H c=some v→Z.lookup c=none:=fun c v hv=>by
  cases y:Z.lookup c with
  |none=>rfl
  |some o=>rw [z.no c o y] at hv;cases hv
 refine⟨⟨fun b o e n hb hx=>?_,fun b o e n hb hx=>?_,fun b o e n hx=>?_,fun b o e hx=>u.there b o e hx,fun b xs e=>?_,fun b o v e=>?_,fun b ps e=>?_⟩,fun b v e=>?_⟩
 ·cases q:Z.lookup b with
  |some o'=>
   have e2:=z.at_ b o' q
   rw [e] at e2;cases e2;exact zh b o q
  |none=>exact u.keep b o e (by rw [af q];exact n) hb hx
 ·cases q:Z.lookup b with
  |some o'=>exact absurd hb (z.fr b o' q)
  |none=>exact u.slot b o e (by rw [af q];exact n) hb hx
 ·cases q:Z.lookup b with
  |some o'=>exact eE q
  |none=>rw [aw q];exact u.free b o e (by rw [af q];exact n) hx
 ·rw [aw (nz b _ e)];exact u.tups b xs (by rw [af (nz b _ e)];exact e)
 ·rw [aw (nz b _ e)];exact u.frzs b o v (by rw [af (nz b _ e)];exact e)
 ·rw [aw (nz b _ e)];exact u.tbls b ps (by rw [af (nz b _ e)];exact e)
 ·obtain⟨q,e1⟩:=dD e
  refine(k b v e1).stay (fun c y _ r=>r) (fun c r=>?_) fun c xs r=>?_
  ·cases y:Z.lookup c with
   |none=>rw [aw y];exact r
   |some o=>rw [zk c o y] at r;cases r
  ·cases y:Z.lookup c with
   |none=>rw [aw y];exact r
   |some o=>rw [zk c o y] at r;cases r
theorem qZ.un_with(z:qZ Z H fs h)(u:Un fs [] H H' h h')(k:dN P w H' h'):Un fs [] (withZ Z H) (withZ Z H') h h'∧dN P w (withZ Z H') h':=by
 have zh:∀b o,Z.lookup b=some o→h'.get? b=some o:=fun b o q=>u.keep b o (z.at_ b o q) (z.no b o q) (z.fr b o q) (fun y=>nomatch y)
 have zn:∀b o,Z.lookup b=some o→H' b=none:=fun b o q=>u.free b o (z.at_ b o q) (z.no b o q) (fun y=>nomatch y)
 have nz:∀c v,H' c=some v→Z.lookup c=none:=fun c v hv=>by
  cases y:Z.lookup c with
  |none=>rfl
  |some o=>rw [zn c o y] at hv;cases hv
 have nw:∀b,withZ Z H b=none→Z.lookup b=none∧H b=none:=fun b e=>by
  cases q:Z.lookup b with
  |some o=>rw [aW q] at e;cases e
  |none=>rw [af q] at e;exact⟨rfl,e⟩
 refine⟨⟨fun b o e n hb hx=>u.keep b o e (nw b n).2 hb hx,fun b o e n hb hx=>u.slot b o e (nw b n).2 hb hx,fun b o e n hx=>?_,fun b o e hx=>u.there b o e hx,fun b xs e=>?_,fun b o v e=>?_,fun b ps e=>?_⟩,fun b v e=>?_⟩
 ·rw [af (nw b n).1];exact u.free b o e (nw b n).2 hx
 ·cases q:Z.lookup b with
  |some o=>rw [aW q] at e;cases e
  |none=>rw [af q] at e⊢;exact u.tups b xs e
 ·cases q:Z.lookup b with
  |some o'=>rw [aW q] at e⊢;exact e
  |none=>rw [af q] at e⊢;exact u.frzs b o v e
 ·cases q:Z.lookup b with
  |some o=>rw [aW q] at e;cases e
  |none=>rw [af q] at e⊢;exact u.tbls b ps e
 ·cases q:Z.lookup b with
  |some o=>rw [aW q] at e;cases e;exact kN (zh b o q)
  |none=>
   rw [af q] at e;exact(k b v e).stay (fun c y _ r=>r) (fun c r=>by rw [af (nz c _ r)];exact r) fun c xs r=>by rw [af (nz c _ r)];exact r
end
section
variable{P:Program}{w:World}{K:PySem.W.Frag}{mg:Str→Option Value}{base:Heap}{A:Around}{outer:List Env}{s s':Shared}{H:Hp}{Z:List (Addr×Obj)}
theorem iu.withZ(e:iu P w K mg base A outer s H)(z:qZ Z H (d0 outer) s.heap)(zb:∀b o,Z.lookup b=some o→base.get? b=none):iu P w K mg base A outer s (withZ Z H) where
 frames:=e.frames
 mod:=e.mod
 bs:=fun b o q=>⟨(e.bs b o q).1,by
  cases y:Z.lookup b with
  |some o'=>rw [zb b o' y] at q;cases q
  |none=>rw [af y];exact(e.bs b o q).2⟩
 bsz:=e.bsz
 funs:=e.funs
 frf:=fun b hb=>by
  cases y:Z.lookup b with
  |some o'=>exact absurd hb (z.fr b o' y)
  |none=>rw [af y];exact e.frf b hb
 hok:=z.hok e.hok
 bare:=e.bare
theorem CE.less{Q:VK}{u:Value}(z:qZ Z H (d0 outer) s.heap)(h:CE outer P w (withZ Z H) s (fun v H'=>Q v (aV Z H')) u s'):CE outer P w H s Q u s':=by
 obtain⟨v,H',os,bare,un,hok,r,q⟩:=h
 obtain⟨u1,k1⟩:=z.un_less un hok
 exact⟨v,_,os,bare,u1,k1,r,q⟩
theorem CE.more{Q:VK}{u:Value}(z:qZ Z H (d0 outer) s.heap)(h:CE outer P w H s (fun v H'=>(∀b o,Z.lookup b=some o→H' b=none)→Q v (withZ Z H')) u s'):CE outer P w (withZ Z H) s Q u s':=by
 obtain⟨v,H',os,bare,un,hok,r,q⟩:=h
 obtain⟨u1,k1⟩:=z.un_with un hok
 exact⟨v,_,os,bare,u1,k1,r,q fun b o y=>un.free b o (z.at_ b o y) (z.no b o y) (fun y=>nomatch y)⟩
theorem dC.less{E:XK}{e:Value}(z:qZ Z H (d0 outer) s.heap)(h:dC P w outer (withZ Z H) s (fun C a H'=>E C a (aV Z H')) e s'):dC P w outer H s E e s':=by
 obtain⟨a,C,t,vs,H',B,rfl,F⟩:=h
 have zk:∀b o,Z.lookup b=some o→H' b=some (.frz o bA):=fun b o q=>F.un.frzs b o _ (aW q)
 have kB:∀b o,s.heap.get? b=some o→H b=none→b∉d0 outer→B.get? b=some o:=fun b o e n hb=>by
  cases q:Z.lookup b with
  |some o'=>
   have e2:=z.at_ b o' q
   rw [e] at e2;cases e2;exact(F.hok b _ (zk b o q)).1
  |none=>exact F.keepB b o e (by rw [af q];exact n) hb
 have hB:dN P w (aV Z H') B:=fun b v e=>by
  obtain⟨q,e1⟩:=dD e
  refine(F.hok b v e1).stay (fun c y _ r=>r) (fun c r=>?_) fun c xs r=>?_
  ·cases y:Z.lookup c with
   |none=>rw [aw y];exact r
   |some o=>rw [zk c o y] at r;cases r
  ·cases y:Z.lookup c with
   |none=>rw [aw y];exact r
   |some o=>rw [zk c o y] at r;cases r
 have hs:dN P w H' s'.heap:=fun b v e=>(F.hok b v e).stay (fun c y _ r=>F.fly.1 _ _ r) (fun _ r=>r) fun _ _ r=>r
 obtain⟨u1,_⟩:=z.un_less (P:=P) (w:=w) F.un hs
 exact⟨a,C,t,vs,_,B,rfl,⟨F.os,F.bare,hB,F.fly,F.tn,F.tup,kB,F.thereB,u1,F.ends⟩⟩
theorem dC.more{E:XK}{e:Value}(z:qZ Z H (d0 outer) s.heap)(h:dC P w outer H s (fun C a H'=>(∀b o,Z.lookup b=some o→H' b=none)→E C a (withZ Z H')) e s'):dC P w outer (withZ Z H) s E e s':=by
 obtain⟨a,C,t,vs,H',B,rfl,F⟩:=h
 have zB:∀b o,Z.lookup b=some o→B.get? b=some o:=fun b o q=>F.keepB b o (z.at_ b o q) (z.no b o q) (z.fr b o q)
 have zn:∀b o,Z.lookup b=some o→H' b=none:=fun b o q=>F.un.free b o (z.at_ b o q) (z.no b o q) (fun y=>nomatch y)
 have nz:∀c v,H' c=some v→Z.lookup c=none:=fun c v hv=>by
  cases y:Z.lookup c with
  |none=>rfl
  |some o=>rw [zn c o y] at hv;cases hv
 have hB:dN P w (withZ Z H') B:=fun b v e=>by
  cases q:Z.lookup b with
  |some o=>rw [aW q] at e;cases e;exact kN (zB b o q)
  |none=>
   rw [af q] at e;exact(F.hok b v e).stay (fun c y _ r=>r) (fun c r=>by rw [af (nz c _ r)];exact r) fun c xs r=>by rw [af (nz c _ r)];exact r
 have hs:dN P w H' s'.heap:=fun b v e=>(F.hok b v e).stay (fun c y _ r=>F.fly.1 _ _ r) (fun _ r=>r) fun _ _ r=>r
 obtain⟨u1,_⟩:=z.un_with (P:=P) (w:=w) F.un hs
 refine⟨a,C,t,vs,_,B,rfl,⟨F.os,F.bare,hB,F.fly,F.tn,F.tup,fun b o e n hb=>F.keepB b o e ?_ hb,F.thereB,u1,F.ends zn⟩⟩
 cases q:Z.lookup b with
 |some o=>rw [aW q] at n;cases n
 |none=>rw [af q] at n;exact n
end
end L2
namespace L2
open PySem PySem.Spec PyProof.Rows
structure pF(ps ys:List Str)(scope:Scope):Prop where
 kind:scope.kind=.function
 co:scope.isCoroutine=false
 gen:scope.isGenerator=false
 nd:(ps++ys).Nodup
 nocell:∀x∈scope.names,x.2≠.cell
 par:∀x∈ps,scope.names.lookup x=some .local
 fre:∀y∈ys,scope.names.lookup y=some .free
 cov:∀x,scope.names.lookup x=some .free→x∈ys
noncomputable def Bf(P:Program)(w:World)(K:PySem.W.Frag)(mg:Str→Option Value)(base:Heap)(N:List Str)(qual:Str)(scope:Scope)(f:Addr)(cd:Value)(cl:List (Str×Addr))(A:Around)(outer:List Env)(s:Shared)(H:Hp)(E:XK):Cx where
 prog:=P
 w:=w
 K:=K
 mg:=mg
 base:=base
 A:=A.deeper (PySem.W.envX qual scope s.heap.objs.size f cd cl)
 N:=N
 s₀:=s
 H₀:=H
 env:=PySem.W.envX qual scope s.heap.objs.size f cd cl
 outer:=outer
 stack:=PySem.W.envX qual scope s.heap.objs.size f cd cl::outer
 ex:=[]
 calm:=true
 fn:=fun _=>false
 pn:=[]
 xe:=fun e s'=>wpAny (model P w) (A.deeper (PySem.W.envX qual scope s.heap.objs.size f cd cl)) (leaving (PySem.W.envX qual scope s.heap.objs.size f cd cl) e) (fun _ Aa=>dC P w outer H s E e Aa) (fun e' Aa=>dC P w outer H s E e' Aa) s'
theorem me{α:Type}:∀{l:List (Str×α)} {x:Str} {v:α},(l.map (·.1)).Nodup→(x,v)∈l→l.lookup x=some v
 |(y,u)::r,x,v,nd,h=>by
  rw [List.map_cons,List.nodup_cons] at nd;rw [List.lookup_cons];rcases List.mem_cons.mp h with e|e
  ·cases e;simp
  ·have fc:(x==y)=false:=beq_eq_false_iff_ne.mpr fun z=>nd.1 (by subst z;exact List.mem_map_of_mem (f:=(·.1)) e)
   rw [fc];exact me nd.2 e
theorem jX{ps:List Str}{us:List Value}{i:Nat}{x:Str}{u:Value}(nd:ps.Nodup)(h1:ps[i]?=some x)(h2:us[i]?=some u):(ps.zip us).reverse.lookup x=some u:=by
 have hs:∀{ps:List Str} {us:List Value},List.Sublist ((ps.zip us).map (·.1)) ps:=fun{ps us}=>by
  induction ps generalizing us with
  |nil=>simp
  |cons p ps ih=>
   cases us with
   |nil=>simp
   |cons q us=>simpa using ih
 refine me ?_ ?_
 ·rw [List.map_reverse];exact List.pairwise_reverse.mpr ((nd.sublist hs).imp fun h=>Ne.symm h)
 ·rw [List.mem_reverse];refine List.mem_of_getElem? (i:=i) ?_;rw [List.getElem?_zip_eq_some];exact⟨h1,h2⟩
section
variable{P:Program}{w:World}{K:PySem.W.Frag}{mg:Str→Option Value}{base:Heap}{ps ys:List Str}{qual:Str}{scope:Scope}{f:Addr}{cd:Value}{cl:List (Str×Addr)}{A:Around}{outer:List Env}{s:Shared}{H:Hp}{E:XK}
theorem rL{us:List Value}{vs ws:List V}{h':Heap}{tk:Nat}(S:pF ps ys scope)(hd:A.handled=none)(e0:iu P w K mg base A outer s H)(Eu:∀y∈ys,∃c,cl.lookup y=some c)(inj:∀x y c,cl.lookup x=some c→cl.lookup y=some c→x=y)
 (r:Vals vs us) (hl:vs.length=ps.length) (hw:ws.length=ys.length) (cells:∀(i:Nat) y c,ys[i]?=some y→cl.lookup y=some c→∀v,ws[i]?=some v→∃u,RelV v u∧s.heap.IsCell c (some u)) (Kj:∀x c,cl.lookup x=some c→∃v,s.heap.IsCell c v)
 (FQ:∀x c,cl.lookup x=some c→H c=none) (ns:h'.Ns s.heap.objs.size (fun x=>(ps.zip us).reverse.lookup x)) (hk:∀b o,s.heap.get? b=some o→h'.get? b=some o):
 Inv (Bf P w K mg base (ps++ys) qual scope f cd cl A outer s H E) [] (vs.map some++ws.map some) H {s with heap:=h',toks:=tk}:=by
 have yL:∀b:Addr,b∉(Bf P w K mg base (ps++ys) qual scope f cd cl A outer s H E).ex:=fun b z=>absurd (show b∈([]:List Addr) from z) (by simp)
 have ck:∀c v,s.heap.IsCell c v→h'.IsCell c v:=fun c v ⟨o,ho,hd⟩=>⟨o,hk c o ho,hd⟩
 refine⟨⟨e0.mod,S.kind,rfl,rfl,Nat.le_refl _,inj,fun x hx=>?_,(fun x c z=>nomatch z),fun _=>hd,Around.frames_deeper e0.frames,.inr ⟨rfl,rfl⟩,fun b z=>absurd z (yL b),e0.bs,e0.bsz,fun b _ _=>yL b,fun b z=>absurd z (yL b),e0.funs,e0.frf⟩,
  rfl,e0.bare,Un.kept hk,⟨_,ns,fun i x v h1 h2 h3=>?_⟩,fun x c h=>let⟨v,z⟩:=Kj x c h;⟨v,ck c v z⟩,e0.hok.fresh (Nat.le_refl _),FQ,fun p hp=>absurd (show p∈([]:List (Addr×Obj)) from hp) (by simp),e0.hok.kept hk,?_⟩
 ·have hx:scope.names.lookup x=some .cell∨scope.names.lookup x=some .free:=hx
  rcases hx with hx|hx
  ·exact absurd rfl (S.nocell _ (PySem.mem_of_lookup hx))
  ·exact Eu x (S.cov x hx)
 ·have h1:(ps++ys)[i]?=some x:=h1
  by_cases hi:i<vs.length
  ·rw [List.getElem?_append_left (by simpa using hi),List.getElem?_map] at h2;have ha:vs[i]?=some v:=by
    cases e:vs[i]? with
    |none=>rw [e] at h2;cases h2
    |some a=>rw [e] at h2;cases h2;rfl
   obtain⟨u,hu,rv⟩:=r.get ha
   have hp:ps[i]?=some x:=by rw [List.getElem?_append_left (by omega)] at h1;exact h1
   exact⟨u,rv,.inl ⟨S.par x (List.mem_of_getElem? hp),jX (S.nd.sublist (List.sublist_append_left _ _)) hp hu⟩⟩
  ·rw [List.getElem?_append_right (by simpa using hi),List.getElem?_map,List.length_map] at h2;rw [List.getElem?_append_right (by omega)] at h1;have ha:ws[i-vs.length]?=some v:=by
    cases e:ws[i-vs.length]? with
    |none=>rw [e] at h2;cases h2
    |some a=>rw [e] at h2;cases h2;rfl
   rw [←hl] at h1;obtain⟨c,hc⟩:=Eu x (List.mem_of_getElem? h1)
   obtain⟨u,rv,z⟩:=cells _ x c h1 hc v ha
   exact⟨u,rv,.inr ⟨.inr (S.fre x (List.mem_of_getElem? h1)),c,hc,ck c _ z⟩⟩
 ·show _=(ps++ys).length
  rw [List.length_append,List.length_append,List.length_map,List.length_map,hl,hw]
theorem EV{N:List Str}:Passes (dC P w) (Bf P w K mg base N qual scope f cd cl A outer s H E) E:=by
 rintro pins σ H1 s1 e s' I ⟨a,C,t,vs,H',B,rfl,F⟩
 have nx:∀b:Addr,b∉(Bf P w K mg base N qual scope f cd cl A outer s H E).ex:=fun b z=>nomatch (show b∈([]:List Addr) from z)
 have keepB:∀b o,s.heap.get? b=some o→H b=none→b∉d0 outer→B.get? b=some o:=fun b o q n hb=>
  F.keepB b o (I.base.keep b o q n hb (nx b)) (I.base.free b o q n (nx b)) (iI I rfl q hb)
 have thereB:∀b o,s.heap.get? b=some o→b∉d0 outer→∃o',B.get? b=some o':=fun b o q hb=>by
  obtain⟨o1,q1⟩:=I.base.there b o q (nx b)
  exact F.thereB b o1 q1 (iI I rfl q hb)
 refine wpAny_leaves_onW I.ok.frames rfl F.fly fun h' x1 x2=>⟨a,C,t,vs,H',B,rfl,?_⟩
 have slot:∀b o,s.heap.get? b=some o→H b=none→b∈d0 outer→∃sl,h'.get? b=some {o with slots:=sl}:=fun b o q n hb=>by
  obtain⟨sl,q1⟩:=I.base.slot b o q n hb (nx b)
  obtain⟨EU,q2⟩:=F.un.any q1 (I.base.free b o q n (nx b)) (fun z=>nomatch z)
  obtain⟨_,o',q3,hd⟩:=F.fly.2.2.1.mem (b:=b) (List.mem_filterMap.mpr (let⟨v,h1,h2⟩:=List.mem_filterMap.mp hb;⟨v,.tail _ h1,h2⟩))
  rw [q2] at q3;cases q3;obtain⟨sl3,q4⟩:=x2 b _ q2 hd
  exact⟨sl3,q4⟩
 refine⟨F.os.trans I.os,F.bare,F.hok,x1,F.tn,F.tup.of_slots x2,keepB,thereB,⟨fun b o q n hb _=>x1.1 _ _ (keepB b o q n hb),fun b o q n hb _=>slot b o q n hb,fun b o q n _=>?_,fun b o q _=>?_,fun b xs q=>F.un.tups _ _ (I.base.tups _ _ q),fun b o u q=>F.un.frzs _ _ _ (I.base.frzs _ _ _ q),fun b ps q=>?_⟩,F.ends⟩
 ·obtain⟨sl,q1⟩:=I.base.any q n (nx b)
  exact F.un.free b _ q1 (I.base.free b o q n (nx b)) (fun z=>nomatch z)
 ·by_cases hb:b∈d0 outer
  ·obtain⟨sl,q1⟩:=slot b o q (I.ok.frf b hb) hb
   exact⟨_,q1⟩
  ·obtain⟨o',q1⟩:=thereB b o q hb
   exact⟨o',x1.1 _ _ q1⟩
 ·obtain⟨m1,q1⟩:=I.base.tbls b ps q
  obtain⟨m2,q2⟩:=F.un.tbls b _ q1
  exact⟨m1++m2,by rw [←Array.append_assoc];exact q2⟩
theorem lam_run{k:Nat}{params:Arguments}{body:Expr}{pm eR:Value}{c':Addr}{oc:Obj}{cF:Array Value}{ct:Tok}{us:List Value}{vs ws:List V}{Q:VK}{Z:List (Addr×Obj)}{t:TE}
 (S:pF ps ys scope) (hr:df k A) (e0:iu P w K mg base A outer s H) (z:qZ Z H (d0 outer) s.heap) (zb:∀b o,Z.lookup b=some o→base.get? b=none)
 (ho:s.heap.get? f=some (PySem.W.kla_obj "<lambda>" qual params body scope cl pm c' eR)) (hc:s.heap.get? c'=some oc) (rf:oc.data=.fields cF) (BC:cF[1]?=some (.str qual ct))
 (hb:bindArgs (PySem.W.kla_fn "<lambda>" qual params body scope cl pm (.ref c') eR) ⟨us,[]⟩=pure (ps.zip us)) (r:Vals vs us) (hl:vs.length=ps.length) (hw:ws.length=ys.length)
 (Eu:∀y∈ys,∃c,cl.lookup y=some c) (inj:∀x y c,cl.lookup x=some c→cl.lookup y=some c→x=y)
 (cz:∀x c,cl.lookup x=some c→∃o v,Z.lookup c=some o∧o.data=.cell v)
 (cells:∀(i:Nat) y c,ys[i]?=some y→cl.lookup y=some c→∀v,ws[i]?=some v→∃u,RelV v u∧s.heap.IsCell c (some u))
 (ht:PE (Bf P w K mg base (ps++ys) qual scope f (.ref c') cl A outer s H (fun C a H'=>(∀b o,Z.lookup b=some o→H' b=none)→E C a (withZ Z H'))) body t)
 (hq:t (vs.map some++ws.map some) H fun v H'=>(∀b o,Z.lookup b=some o→H' b=none)→Q v (withZ Z H')):
 codeAny (model P w) A (.call (.ref f) ⟨us,[]⟩) (CR (dC P w) outer P w (withZ Z H) s Q E) s:=by
 have lim:s.heap.NoLimit:=e0.mod.nolimit.keeps fun b o e=>(e0.bs b o e).1
 refine PySem.W.kla_callFunE hr.depth ho rfl S.co S.gen rfl ⟨c',oc,cF,ct,rfl,hc,rf,BC⟩ ?_;rw [hb];refine wpAny_pure (wpAny_newFunctionEnv S.nocell (fun y hy=>S.par y.1 (List.of_mem_zip hy).1) (fun h₁ HJ hsb=>?_) S.kind)
 have hk₁:∀b o,s.heap.get? b=some o→h₁.get? b=some o:=fun b o e=>hsb.extBut b o (Nat.ne_of_lt (Heap.lt_size e)) (Heap.get?_push_of_some _ e)
 refine⟨lim.keeps hk₁,?_⟩;show codeAny _ _ (.expr body (PySem.W.envX qual scope s.heap.objs.size f (.ref c') cl)) _ _;have I:=rL (E:=fun C a H'=>(∀b o,Z.lookup b=some o→H' b=none)→E C a (withZ Z H')) (cd:=.ref c') (f:=f) (qual:=qual) (tk:=s.toks+(ps.zip us).length) S hr.hd e0 Eu inj r hl hw cells (fun x c h=>by
  obtain⟨o,v,h1,h2⟩:=cz x c h
  exact⟨v,o,z.at_ c o h1,h2⟩) (fun x c h=>by
  obtain⟨o,v,h1,h2⟩:=cz x c h
  exact z.no c o h1) HJ hk₁
 refine PySem.W.kla_codeExpr (wpAny_mono (ht [] _ _ H _ I hq) (fun u s' hs=>?_) fun e s' hs=>?_)
 ·obtain⟨v,H',J,rv,q⟩:=hs
  exact CE.more z ⟨v,H',J.os,J.bare,J.base,J.hok,rv,q⟩
 ·exact wpAny_mono hs (fun _ Aa y=>dC.more z y) fun e' Aa y=>dC.more z y
end
end L2
namespace L2
open PySem PySem.Spec PyProof.Rows
theorem qh{p:Pos}{a b:Int}{c cv:Value}:∀(l:List Value),TriplesOk l→codeAmong p (l++[rawInt a,rawInt b,c])=some cv→codeAmong p l=some cv∨cv=c:=by
 intro l h e
 fun_induction TriplesOk l with
 |case1=>
  simp only [List.nil_append,codeAmong,rawInt] at e;split at e
  ·cases e;exact .inr rfl
  ·cases e
 |case2 a' t b' u x rest ih=>
  simp only [List.cons_append,codeAmong] at e⊢;split at e
  ·rename_i hc;rw [if_pos hc];exact .inl e
  ·rename_i hc;rw [if_neg hc];exact ih h e
 |case3 l h1 h2=>exact h.elim
def wM(mg:Str→Option Value)(base:Heap):Prop:=∃bm o,mg "__builtins__"=some (.ref bm)∧bm≠builtinsNs∧bm≠mainGlobals∧base.get? bm=some o∧o.cls=.type "module"∧o.dict=some builtinsNs∧o.data=.plain
noncomputable def fw(H:Hp)(P:Addr)(om:Array Value)(c':Addr)(oc:Obj)(f:Addr)(fo:Obj):Hp:=upd (upd (upd H P (.tbl om)) c' (.frz oc bA)) f (.frz fo bA)
section
variable{X:Cx}{pins:List (Addr×Obj)}{σ:St}{H:Hp}{s:Shared}{c P c' f:Addr}{ps om:Array Value}{oc fo:Obj}
theorem Inv.lam{h':Heap}{tk:Nat}(I:Inv X pins σ H s)(hP:H P=some (.tbl ps))(hx:∀b o,b≠P→s.heap.get? b=some o→h'.get? b=some o)(Lp:h'.get? P=some (PySem.W.tabObj om))(more:∃m,om=ps++m)
 (hc:H c'=none∧s.heap.objs.size≤c'∨H c'=some (.frz oc bA)) (Ol:h'.get? c'=some oc) (hf:s.heap.objs.size≤f) (Oi:h'.get? f=some fo) (EA:c'≠f):
 Inv X pins σ (fw H P om c' oc f fo) {s with heap:=h',toks:=tk}:=by
 have fr:H f=none:=I.hok.fresh hf
 have nP:∀b u,H b=some u→(∀q,u≠.tbl q)→b≠P:=fun b u e n z=>by subst z;rw [hP] at e;cases e;exact n _ rfl
 have nf:∀b u,H b=some u→b≠f:=fun b u e z=>by subst z;rw [fr] at e;cases e
 have cP:c'≠P:=fun z=>by
  subst z;rcases hc with⟨e,_⟩|e
  ·rw [hP] at e;cases e
  ·rw [hP] at e;cases e
 have fP:f≠P:=fun z=>by subst z;rw [hP] at fr;cases fr
 have at_:∀b u,H b=some u→(∀q,u≠.tbl q)→fw H P om c' oc f fo b=some u:=fun b u e n=>by
  unfold fw;rw [aa (nf b u e)]
  by_cases hb:b=c'
  ·subst hb;rw [ag];rcases hc with⟨z,_⟩|z
   ·rw [z] at e;cases e
   ·rw [z] at e;exact e
  ·rw [aa hb,aa (nP b u e n)];exact e
 have no:∀b o,s.heap.get? b=some o→H b=none→fw H P om c' oc f fo b=none:=fun b o e n=>by
  have y6:b≠f:=fun z=>absurd (Heap.lt_size e) (by rw [z];exact Nat.not_lt.mpr hf)
  have EG:b≠P:=fun z=>by subst z;rw [hP] at n;cases n
  have vy:b≠c':=fun z=>by
   rcases hc with⟨_,y⟩|y
   ·exact absurd (Heap.lt_size e) (by rw [z];exact Nat.not_lt.mpr y)
   ·rw [z,y] at n;cases n
  unfold fw;rw [aa y6,aa vy,aa EG];exact n
 have kp:∀b o,s.heap.get? b=some o→H b=none→h'.get? b=some o:=fun b o e n=>hx b o (fun z=>by subst z;rw [hP] at n;cases n) e
 refine I.un ⟨fun b o e n _ _=>kp b o e n,fun b o e n _ _=>⟨o.slots,kp b o e n⟩,fun b o e n _=>no b o e n,fun b o e _=>?_,fun b xs e=>at_ b _ e (fun _ z=>nomatch z),fun b o u e=>at_ b _ e (fun _ z=>nomatch z),fun b qs e=>?_⟩ fun b u e=>?_
 ·by_cases hb:b=P
  ·exact⟨_,by rw [hb];exact Lp⟩
  ·exact⟨o,hx b o hb e⟩
 ·by_cases hb:b=P
  ·subst hb;rw [hP] at e;cases e;obtain⟨m,rfl⟩:=more
   exact⟨m,by unfold fw;rw [aa (Ne.symm fP),aa (Ne.symm cP),ag]⟩
  ·have vy:b≠c':=fun z=>by
    subst z;rcases hc with⟨y,_⟩|y
    ·rw [y] at e;cases e
    ·rw [y] at e;cases e
   exact⟨#[],by unfold fw;rw [aa (nf b _ e),aa vy,aa hb,e];simp⟩
 ·unfold fw at e
  by_cases h1:b=f
  ·subst h1;rw [ag] at e;cases e;exact kN Oi
  ·rw [aa h1] at e
   by_cases h2:b=c'
   ·subst h2;rw [ag] at e;cases e;exact kN Ol
   ·rw [aa h2] at e
    by_cases h3:b=P
    ·subst h3;rw [ag] at e;cases e;exact Lp
    ·rw [aa h3] at e;refine(I.hok b u e).stay (fun d v hd q=>hx d v ?_ q) (fun d q=>at_ d _ q (fun _ z=>nomatch z)) fun d xs q=>at_ d _ q (fun _ z=>nomatch z)
     rcases hd with hd|hd
     ·rw [hd];exact h3
     ·exact nP d _ hd (fun _ z=>nomatch z)
theorem lam_make{R:Addr→Obj→Prop}{params:Arguments}{body:Expr}{scope:Scope}{pos:Pos}{cl:List (Str×Addr)}{Q:Value→Shared→Prop}{E:Value→Shared→Prop}(I:Inv X pins σ H s)(hP:H P=some (.tbl ps))(ht:TriplesOk ps.toList)(sX:X.env.code=.ref c)(C:PySem.W.CodeHd X.base c P)
 (ME:wM X.mg X.base) (A5:closureFor scope X.env=pure cl) (DJ:defaultsOf params X.env=([],[]))
 (hit:∀cv,codeAmong pos ps.toList=some cv→∃c' oc cF t,cv=.ref c'∧H c'=some (.frz oc bA)∧R c' oc∧oc.data=.fields cF∧cF[1]?=some (.str (X.env.qual++"<lambda>") t))
 (h:∀(f c':Addr) (oc:Obj) (cF:Array Value) (t:Tok) (eR:Value) (om:Array Value) (h':Heap) (tk:Nat),H f=none→(H c'=none∨H c'=some (.frz oc bA)∧R c' oc)→c'≠f→f≠P→c'≠P→oc.data=.fields cF→cF[1]?=some (.str (X.env.qual++"<lambda>") t)→TriplesOk om.toList→
  (∀p cv,codeAmong p om.toList=some cv→codeAmong p ps.toList=some cv∨cv=.ref c')→(∃m,om=ps++m)→
  Inv X pins σ (fw H P om c' oc f (PySem.W.kla_obj "<lambda>" (X.env.qual++"<lambda>") params body scope cl ((X.mg "__name__").getD .none) c' eR)) {s with heap:=h',toks:=tk}→Q (.ref f) {s with heap:=h',toks:=tk}):
 wpAny (model X.prog X.w) X.A (eval (.Lambda params body scope pos) X.env) Q E s:=by
 have JE:s.heap.get? P=some (PySem.W.tabObj ps):=I.hok P _ hP
 have hg:=I.ok.mod.glob.keeps I.bk
 have MT:mainGlobals≠P:=fun q=>by
  obtain⟨o,es,ep,e,_⟩:=I.ok.mod.glob
  have:=(I.bs _ _ e).2
  rw [q,hP] at this;cases this
 obtain⟨bm,ob,b1,b2,b3,b4,b5,b6,b7⟩:=ME
 have hB:s.heap.BuiltinsAt X.mg P:=⟨bm,ob,b1,b2,b3,(fun q=>by
  have:=(I.bs _ _ b4).2
  rw [q,hP] at this;cases this),I.bk _ _ b4,b5,b6,b7⟩
 refine PySem.W.kla_eval DJ ?_;cases hm:codeAmong pos ps.toList with
 |none=>
  refine PySem.W.kla_makeFunction (mg:=X.mg) A5 I.ok.glob hg sX (C.keeps I.bk) JE ht hm MT hB fun c' eR h' tk hx CZ bW JY M7=>?_
  obtain⟨c₂,oc,vs,t,e2,hoc,hd,hv⟩:=JY
  cases e2;have BC:H c'=none:=I.hok.fresh CZ
  have hsz:s.heap.objs.size≤h'.objs.size:=Nat.le_trans CZ (Nat.le_of_lt bW)
  have oM:H h'.objs.size=none:=I.hok.fresh hsz
  refine h h'.objs.size c' oc vs t eR _ _ tk oM (.inl BC) (Nat.ne_of_lt bW) (fun z=>by rw [z,hP] at oM;cases oM) (fun z=>by rw [z,hP] at BC;cases BC) hd hv ?_ ?_ ⟨_,rfl⟩
   (I.lam hP (fun b o hb e=>Heap.get?_push_of_some _ (hx b o hb e)) (Heap.get?_push_of_some _ M7) ⟨_,rfl⟩ (.inl ⟨BC,CZ⟩) (Heap.get?_push_of_some _ hoc) hsz (Heap.get?_push_size _ rfl) (Nat.ne_of_lt bW))
  ·rw [Array.toList_append];exact TriplesOk_snoc _ _ _ _ ht
  ·intro p cv e;rw [Array.toList_append] at e;exact qh _ ht e
 |some cv=>
  obtain⟨c',oc,cF,t,rfl,gq,hR,hd,hv⟩:=hit cv hm
  refine PySem.W.kla_makeFunctionHit (mg:=X.mg) A5 I.ok.glob hg sX (C.keeps I.bk) JE ht hm hB fun eR h' tk hk hsz=>?_
  have oM:H h'.objs.size=none:=I.hok.fresh hsz
  have vq:s.heap.get? c'=some oc:=(I.hok c' _ gq).1
  have EA:c'≠h'.objs.size:=fun z=>by rw [z,oM] at gq;cases gq
  refine h h'.objs.size c' oc cF t eR ps _ tk oM (.inr ⟨gq,hR⟩) EA (fun z=>by rw [z,hP] at oM;cases oM) (fun z=>by rw [z,hP] at gq;cases gq) hd hv ht (fun p cv e=>.inl e) ⟨#[],by simp⟩
   (I.lam hP (fun b o hb e=>Heap.get?_push_of_some _ (hk b o e)) (Heap.get?_push_of_some _ (hk _ _ JE)) ⟨#[],by simp⟩ (.inr gq) (Heap.get?_push_of_some _ (hk _ _ vq)) hsz (Heap.get?_push_size _ rfl) EA)
end
end L2
namespace L2
open PySem PySem.Spec PyProof.Rows
end L2
namespace L2
open PySem PySem.Spec PyProof.Rows
section
variable(P:Program)(w:World)
end
section
variable{P:Program}{w:World}{H H':Hp}{h h':Heap}{a:Addr}{o:HO}
end
section
variable{P:Program}{w:World}{H:Hp}{h h':Heap}{x e:Addr}{o':HO}
end
section
variable{fs Jd ex L3:List Addr}{H H1 H2:Hp}{h h1 h2 h':Heap}{a x e:Addr}{o:HO}
end
end L2
namespace L2
open PySem PySem.Spec PyProof.Rows
section
variable{X:Cx}{pins:List (Addr×Obj)}{σ:List (Option V)}{H H':Hp}{s:Shared}{h':Heap}
end
end L2
namespace L2
open PySem PySem.Spec PyProof.Rows
section
variable{X:Cx}
variable{a b:Expr}{ta tb:TE}{pos:Pos}
variable{tA Gd:TT}{rest:List Expr}
end
end L2
namespace L2
open PySem PySem.Spec PyProof.Rows
section
variable{X:Cx}{pins:List (Addr×Obj)}{σ:St}{H:Hp}{s:Shared}{a:Addr}{xs ys:List V}
end
section
variable{X:Cx}{pins:List (Addr×Obj)}{σ:St}{H:Hp}{s:Shared}{E:Value→Shared→Prop}
end
section
variable{X:Cx}{st:Stmt}{rest:List Stmt}{t u:TS}{e:Expr}{te:TE}{pos:Pos}
end
section
variable{X:Cx}{pos:Pos}
end
section
variable{X:Cx}{pos:Pos}
end
end L2
namespace L2
open PySem PySem.Spec PyProof.Rows
section
variable{X:Cx}{tg:Expr}
end
end L2
namespace L2
open PySem PySem.Spec PyProof.Rows
section
variable{X:Cx}{a b c:Expr}{ta tb tc:TE}{pos:Pos}
end
section
variable{X:Cx}{a b c:Expr}{ta tb tc:TE}{pos:Pos}
end
end L2
namespace L2
open PySem PySem.Spec PyProof.Rows
section
variable{prog:Program}{w:World}{A:Around}{E:Value→Shared→Prop}{s:Shared}{K:PySem.W.Frag}{x dx C f:Addr}{mA:Str→Option Value}{name:Str}{v:Value}
end
section
variable{P:Program}{w:World}{H H':Hp}{h h':Heap}{a C dx:Addr}{fs Jd:List (Str×V)}
end
section
variable{X:Cx}{pins:List (Addr×Obj)}{σ:St}{H:Hp}{s:Shared}{a C dx:Addr}{fs:List (Str×V)}{f:Str}{v:V}{A:Around}{E:Value→Shared→Prop}
end
section
variable{X:Cx}{o e value:Expr}{f:Str}{pos pos' iF:Pos}{ta tv:TE}
end
section
variable{X:Cx}{pins:List (Addr×Obj)}{σ:St}{H:Hp}{s:Shared}{A:Around}{E:Value→Shared→Prop}{Q:Value→Shared→Prop}{c:Value}{b:Bool}
end
end L2
namespace L2
open PySem PySem.Spec PyProof.Rows
section
variable{X:Cx}{e:Expr}{es:List Expr}{te:TE}{t:TA}{pos:Pos}
end
section
variable{X:Cx}{pins:List (Addr×Obj)}{σ:St}{H:Hp}{s s':Shared}
end
section
variable{X:Cx}{CX:qe}{k:Nat}{f C:Addr}{fd:FuncData}{ps:List Str}{sp:Sp}{Ma:List V}{ds:List Value}{E:XK}{x m:Str}{p pos apos:Pos}{e o:Expr}{es:List Expr}{ta:TE}{t:TA}
end
section
variable{X:Cx}{CX:qe}{k:Nat}{f C:Addr}{fd:FuncData}{ps ks:List Str}{sp:Sp}{E:XK}{x m:Str}{p pos apos J5:Pos}{e o:Expr}{es:List Expr}{iQ:List Keyword}{te ta:TE}{t tk:TA}{nm:Option Str}
variable{g:List Value→List Value→List Value}{gV:List V→List V→List V}
end
end L2
namespace L2
open PySem PySem.Spec PyProof.Rows
section
variable{X:Cx}{x:Str}{p pos:Pos}{e:Expr}{es:List Expr}{t:TA}{id T:String}{r:List V→Hp→VK→Prop}
end
end L2
namespace L2
open PySem PySem.Spec PyProof.Rows
section
variable{κ:Type} [DecidableEq κ]
def f6(au:List (κ×V))(k:κ):Option V:=(au.find? fun kv=>decide (kv.1=k)).map (·.2)
def putK(au:List (κ×V))(k:κ)(v:V):List (κ×V):=
 if(au.any fun kv=>decide (kv.1=k))=true then au.map (fun kv=>if kv.1=k then(kv.1,v) else kv) else au++[(k,v)]
def e8(au:List (κ×V))(k:κ):List (κ×V):=au.filter fun kv=>decide (kv.1≠k)
theorem fJ{p:κ×V}{r:List (κ×V)}{k:κ}(e:p.1=k):f6 (p::r) k=some p.2:=by simp [f6,List.find?_cons,e]
theorem fk{p:κ×V}{r:List (κ×V)}{k:κ}(e:¬p.1=k):f6 (p::r) k=f6 r k:=by simp [f6,List.find?_cons,e]
theorem j2(k:κ):∀au:List (κ×V),(au.any fun kv=>decide (kv.1=k))=(f6 au k).isSome
 |[]=>rfl
 |p::r=>by
  rw [List.any_cons]
  by_cases e:p.1=k
  ·simp only [fJ e,decide_eq_true e,Bool.true_or,Option.isSome_some]
  ·rw [fk e,decide_eq_false e,Bool.false_or];exact j2 k r
theorem dU(au:List (κ×V))(k:κ)(v:V):(putK au k v).length≤au.length+1:=by
 unfold putK;split
 ·rw [List.length_map];omega
 ·rw [List.length_append,List.length_cons,List.length_nil];omega
theorem i9.isSome_eq{o:Option V}{u:Option Value}(r:i9 o u):o.isSome=u.isSome:=by
 cases o with
 |none=>cases u with
  |none=>rfl
  |some _=>exact(show False from r).elim
 |some _=>cases u with
  |none=>exact(show False from r).elim
  |some _=>rfl
theorem KV.val{au:List (κ×V)}{vs:List (κ×Value)}(r:KV au vs)(k:κ):i9 (f6 au k) (valueAt vs k):=by
 unfold KV at r
 induction r with
 |nil=>exact True.intro
 |@cons p q ps qs h t ih=>
  obtain⟨h1,h2⟩:=h
  by_cases e:p.1=k
  ·have e':q.1=k:=h1.symm.trans e
   have b:valueAt (q::qs) k=some q.2:=by simp [valueAt,List.find?_cons,e']
   rw [fJ e,b];exact h2
  ·have e':¬q.1=k:=fun z=>e (h1.trans z)
   have b:valueAt (q::qs) k=valueAt qs k:=by simp [valueAt,List.find?_cons,e']
   rw [fk e,b];exact ih
theorem KV.any{au:List (κ×V)}{vs:List (κ×Value)}(r:KV au vs)(k:κ):(au.any fun kv=>decide (kv.1=k))=vs.any fun kv=>decide (kv.1=k):=by
 unfold KV at r
 induction r with
 |nil=>rfl
 |cons h t ih=>rw [List.any_cons,List.any_cons,ih,h.1]
theorem KV.repl{au:List (κ×V)}{vs:List (κ×Value)}(r:KV au vs)(k:κ){y:V}{u:Value}(ry:RelV y u):
 KV (au.map fun kv=>if kv.1=k then(kv.1,y) else kv) (vs.map fun kv=>if kv.1=k then(kv.1,u) else kv):=by
 unfold KV at r⊢
 induction r with
 |nil=>exact .nil
 |@cons p q ps qs h t ih=>
  rw [List.map_cons,List.map_cons];refine .cons ?_ ih;obtain⟨h1,h2⟩:=h
  by_cases e:p.1=k
  ·rw [if_pos e,if_pos (h1.symm.trans e)];exact⟨h1,ry⟩
  ·rw [if_neg e,if_neg (fun z=>e (h1.trans z))];exact⟨h1,h2⟩
theorem KV.put{au:List (κ×V)}{vs:List (κ×Value)}(r:KV au vs)(k:κ){y:V}{u:Value}(ry:RelV y u):KV (putK au k y) (stored vs k u):=by
 unfold putK stored;rw [r.any k]
 by_cases e:(vs.any fun kv=>decide (kv.1=k))=true
 ·rw [if_pos e,if_pos e];exact r.repl k ry
 ·rw [if_neg e,if_neg e];exact Paired.snoc r ⟨rfl,ry⟩
theorem KV.length{au:List (κ×V)}{vs:List (κ×Value)}(r:KV au vs):au.length=vs.length:=Paired.length r
theorem xw(au:List (κ×V))(k:κ):(e8 au k).length≤au.length:=List.length_filter_le _ _
end
theorem sJ{P:Program}{w:World}{k:Key}{u:Value}(r:RelV (kV k) u):(bE P w).is k u=true:=by
 cases k with
 |inl i=>obtain⟨t,e⟩:=(show∃t,u=Value.int i t from r);subst e;exact pJ P w i t
 |inr x=>obtain⟨t,e⟩:=(show∃t,u=Value.str x t from r);subst e;exact pH P w x t
theorem lW{P:Program}{w:World}:∀{ks:List Key} {us:List Value},Vals (ks.map kV) us→ItemsAre (bE P w) ks us
 |[],_,r=>by rw [List.map_nil] at r;cases r;exact .nil
 |k::ks,_,r=>by
  rw [List.map_cons] at r;cases r with
  |cons h t=>exact .cons (sJ h) (lW t)
abbrev KT(H:Hp):List (List Key×V)→List (List Key×Addr×Value)→Prop:=Paired fun p q=>p.1=q.1∧H q.2.1=some (.tup (p.1.map kV))∧RelV p.2 q.2.2
theorem KT.val{H:Hp}{au:List (List Key×V)}{xs:List (List Key×Addr×Value)}(r:KT H au xs)(k:List Key):i9 (f6 au k) ((atKey xs k).map (·.2)):=by
 induction r with
 |nil=>exact True.intro
 |@cons p q ps qs h t ih=>
  obtain⟨h1,_,h2⟩:=h
  by_cases e:p.1=k
  ·have e':q.1=k:=h1.symm.trans e
   have b:atKey (q::qs) k=some q.2:=by simp [atKey,List.find?_cons,e']
   rw [fJ e,b];exact h2
  ·have e':¬q.1=k:=fun z=>e (h1.trans z)
   have b:atKey (q::qs) k=atKey qs k:=by simp [atKey,List.find?_cons,e']
   rw [fk e,b];exact ih
theorem KT.repl{H:Hp}{au:List (List Key×V)}{xs:List (List Key×Addr×Value)}(r:KT H au xs)(k:List Key){y:V}{u:Value}(ry:RelV y u):
 KT H (au.map fun kv=>if kv.1=k then(kv.1,y) else kv) (xs.map (putAt k u)):=by
 induction r with
 |nil=>exact .nil
 |@cons p q ps qs h t ih=>
  rw [List.map_cons,List.map_cons];refine .cons ?_ ih;obtain⟨h1,h2,h3⟩:=h
  unfold putAt
  by_cases e:p.1=k
  ·rw [if_pos e,if_pos (h1.symm.trans e)];exact⟨h1,h2,ry⟩
  ·rw [if_neg e,if_neg (fun z=>e (h1.trans z))];exact⟨h1,h2,h3⟩
theorem KT.put{H:Hp}{au:List (List Key×V)}{xs:List (List Key×Addr×Value)}(r:KT H au xs)(k:List Key){b:Addr}{y:V}{u:Value}(hb:H b=some (.tup (k.map kV)))(ry:RelV y u):
 KT H (putK au k y) (storedH xs k b u):=by
 have e:(au.any fun kv=>decide (kv.1=k))=(atKey xs k).isSome:=by
  rw [j2,(r.val k).isSome_eq,Option.isSome_map]
 unfold putK storedH;rw [e]
 by_cases q:(atKey xs k).isSome=true
 ·rw [if_pos q,if_pos q];exact r.repl k ry
 ·rw [if_neg q,if_neg q];exact Paired.snoc r ⟨rfl,hb,ry⟩
theorem KT.keeps{H H':Hp}{au:List (List Key×V)}{xs:List (List Key×Addr×Value)}(r:KT H au xs)(ht:∀b ys,H b=some (.tup ys)→H' b=some (.tup ys)):KT H' au xs:=
 Paired.mapP r fun _ _ z=>⟨z.1,ht _ _ z.2.1,z.2.2⟩
section
variable{P:Program}{w:World}{H:Hp}{h:Heap}{a:Addr}
theorem Bw{u:HO}(ok:dN P w H h)(e:Rd H a u):bM P w H h a u:=e.ok ok
theorem qc{au:List (Key×V)}(ok:dN P w H h)(e:Rd H a (.dK au)):au.length≤sizeLine∧(a==sysModules)=false∧∃vs,KV au vs∧h.DictOf (bE P w) a vs:=
 show bM P w H h a (.dK au) from Bw ok e
theorem FA{au:List (Key×V)}(ok:dN P w H h)(e:H a=some (.dK au)):au.length≤sizeLine∧(a==sysModules)=false∧∃vs,KV au vs∧h.DictOf (bE P w) a vs:=qc ok (.inl e)
theorem gD{ks:List Key}(ok:dN P w H h)(e:H a=some (.tup (ks.map kV))):(tupleKind (bE P w)).is h ks a:=by
 obtain⟨_,aq,r,o,h1,h2,n,h3⟩:=(show bM P w H h a (.tup (ks.map kV)) from ok a _ e)
 exact⟨o,aq.toArray,n,h1,h2,h3,by simpa using lW r⟩
theorem kI{au:List (List Key×V)}(ok:dN P w H h)(e:Rd H a (.dT au)):au.length≤sizeLine∧(a==sysModules)=false∧
 ∃xs,KT H au xs∧h.DictOfH (tupleKind (bE P w)) a xs:=by
 obtain⟨z,y,xs,r,o,es,ep,h1,h2,h3,h4,h5⟩:=(show bM P w H h a (.dT au) from Bw ok e)
 refine⟨z,y,xs,r,o,es,ep,h1,h2,h3,h4,fun x hx=>?_,h5⟩
 have all:∀{l:List (List Key×V)} {m:List (List Key×Addr×Value)},KT H l m→∀x∈m,(tupleKind (bE P w)).is h x.1 x.2.1:=by
  intro l m q
  induction q with
  |nil=>intro x hx;exact nomatch hx
  |@cons p q ps qs hq t ih=>
   intro x hx;rcases List.mem_cons.mp hx with e|hx
   ·subst e;exact gD ok (by rw [←hq.1];exact hq.2.1)
   ·exact ih x hx
 exact all r x hx
theorem v8{au:List (List Key×V)}(ok:dN P w H h)(e:H a=some (.dT au)):au.length≤sizeLine∧(a==sysModules)=false∧
 ∃xs,KT H au xs∧h.DictOfH (tupleKind (bE P w)) a xs:=kI ok (.inl e)
end
def Ah(H:Hp)(a:Addr)(y:V)(r:Option V):Prop:=
 (∃au k,Rd H a (.dK au)∧y=kV k∧r=f6 au k)∨∃au k b,Rd H a (.dT au)∧y=.ref b∧H b=some (.tup (k.map kV))∧r=f6 au k
def uB(H:Hp)(a:Addr)(y v:V)(H':Hp):Prop:=
 (∃au k,H a=some (.dK au)∧y=kV k∧au.length<sizeLine∧H'=upd H a (.dK (putK au k v)))∨
 ∃au k b,H a=some (.dT au)∧y=.ref b∧H b=some (.tup (k.map kV))∧au.length<sizeLine∧H'=upd H a (.dT (putK au k v))
theorem uB.t{H:Hp}{a b:Addr}{au:List (List Key×V)}{k:List Key}{v:V}(e:H a=some (.dT au))(eb:H b=some (.tup (k.map kV)))(hl:au.length<sizeLine):
 uB H a (.ref b) v (upd H a (.dT (putK au k v))):=.inr ⟨au,k,b,e,rfl,eb,hl,rfl⟩
section
variable{X:Cx}{pins:List (Addr×Obj)}{σ:St}{H:Hp}{s:Shared}{a:Addr}{y v:V}{u r:Value}{o:Option V}{A:Around}{E:Value→Shared→Prop}
theorem Inv.big(I:Inv X pins σ H s):sysModules<s.heap.objs.size:=by
 have h:mainGlobals<s.heap.objs.size:=(I.mod.glob.keeps I.bk).lt
 exact Nat.lt_trans (by decide) h
theorem uc{Q:Value→Shared→Prop}(hu:A.units+1<cLine)(I:Inv X pins σ H s)(g:Ah H a y (some v))(ry:RelV y u)(h:∀w' s',Inv X pins σ H s'→RelV v w'→Q w' s'):
 wpAny (model X.prog X.w) A (getItem (.ref a) u) Q E s:=by
 rcases g with⟨au,k,e,ey,l⟩|⟨au,k,b,e,ey,eb,l⟩
 ·subst ey;obtain⟨z,hd,vs,rel,dd⟩:=qc I.hok e
  obtain⟨w',hw,gh⟩:=i9.some_of (v:=v) (o:=valueAt vs k) (by rw [l];exact rel.val k)
  exact wpAny_getItem_of (sJ ry) dd.mapOf hw (h w' _ (I.tok _) gh)
 ·subst ey;cases(show u=Value.ref b from ry);obtain⟨z,hd,xs,rel,dd⟩:=kI I.hok e
  obtain⟨w',hw,gh⟩:=i9.some_of (v:=v) (o:=(atKey xs k).map (·.2)) (by rw [l];exact rel.val k)
  obtain⟨p,hp,hp2⟩:=Option.map_eq_some_iff.mp hw
  refine wpAny_getItem_heap (tupleKind_room_in1 hu) (gD I.hok eb) dd hp ?_;rw [hp2];exact h w' _ (I.tok _) gh
theorem yu{Q:Value→Shared→Prop}(hu:A.units+1<cLine)(I:Inv X pins σ H s)(g:Ah H a y o)(ry:RelV y u)(h:∀s',Inv X pins σ H s'→Q (.bool (!o.isSome)) s'):
 wpAny (model X.prog X.w) A (compareOp .NotIn u (.ref a)) Q E s:=by
 rcases g with⟨au,k,e,ey,l⟩|⟨au,k,b,e,ey,eb,l⟩
 ·subst ey;obtain⟨z,hd,vs,rel,dd⟩:=qc I.hok e
  refine wpAny_notIn_of (sJ ry) hd dd.mapOf ?_;rw [←(rel.val k).isSome_eq,←l];exact h _ (I.tok _)
 ·subst ey;cases(show u=Value.ref b from ry);obtain⟨z,hd,xs,rel,dd⟩:=kI I.hok e
  refine wpAny_notIn_heap (tupleKind_room_in1 hu) (gD I.hok eb) hd dd ?_;have q:=(rel.val k).isSome_eq
  rw [Option.isSome_map] at q;rw [←q,←l];exact h _ (I.tok _)
theorem fT{h':Heap}{t':Nat}{ob:HO}(I:Inv X pins σ H s)(mu:Gz (H a))(hs:Heap.SameBut a s.heap h')(he:∃q,h'.get? a=some q)(new:bM X.prog X.w (upd H a ob) h' a ob):
 Inv X pins σ (upd H a ob) {s with heap:=h',toks:=t'}:=
 I.write (x:=a) (e:=a) mu (.inl rfl) (fun b q hb z=>(hs.2 b hb).trans z) he new
theorem BI{P:Program}{w:World}{H':Hp}{h':Heap}{au:List (Key×V)}{vs:List (Key×Value)}(z:au.length≤sizeLine)(hd:(a==sysModules)=false)(rel:KV au vs)(dd:h'.DictOf (bE P w) a vs):
 bM P w H' h' a (.dK au):=⟨z,hd,vs,rel,dd⟩
theorem uw{H':Hp}{Q:Unit→Shared→Prop}(hu:A.units+1<cLine)(I:Inv X pins σ H s)(g:uB H a y v H')(ry:RelV y u)(rv:RelV v r)(h:∀s',Inv X pins σ H' s'→Q () s'):
 wpAny (model X.prog X.w) A (setItem (.ref a) u r) Q E s:=by
 rcases g with⟨au,k,e,ey,l,eH⟩|⟨au,k,b,e,ey,eb,l,eH⟩
 ·subst ey eH;obtain⟨z,hd,vs,rel,dd⟩:=FA I.hok e
  have hz:vs.length≤sizeLine:=by rw [←rel.length];exact z
  have hl:(putK au k v).length≤sizeLine:=by have:=dU au k v;omega
  refine wpAny_setItem_pairs (hsz:=hz) (sJ ry) dd fun h' Bd hs=>h _ ?_
  have he:∃q,h'.get? a=some q:=let⟨q,_,_,hq,_⟩:=Bd;⟨q,hq⟩
  exact fT I (by rw [e];exact True.intro) hs he (BI hl hd (rel.put k rv) Bd)
 ·subst ey eH;cases(show u=Value.ref b from ry);obtain⟨z,hd,xs,rel,dd⟩:=v8 I.hok e
  have hz:xs.length≤sizeLine:=by rw [←Paired.length rel];exact z
  have hl:(putK au k v).length≤sizeLine:=by have:=dU au k v;omega
  refine wpAny_setItem_heap (hsz:=hz) (tupleKind_room_in1 hu) (gD I.hok eb) dd fun h' Bd hs=>h _ ?_
  obtain⟨q,es,ep,hq,h2,h3,h4,_,h5⟩:=Bd
  refine fT I (by rw [e];exact True.intro) hs ⟨q,hq⟩ ⟨hl,hd,_,(rel.put k eb rv).keeps fun c ys ec=>?_,q,es,ep,hq,h2,h3,h4,h5⟩
  rw [aa (ei ec e (fun z=>nomatch z))];exact ec
end
section
variable{X:Cx}{pins:List (Addr×Obj)}{σ:St}{H:Hp}{s:Shared}{a:Addr}{au:List (Key×V)}{k:Key}{u:Value}{A:Around}{E:Value→Shared→Prop}
end
def EM(i:Expr):Prop:=∀ov iv,subscripted i false ov iv=operate [ov,iv] (getItem ov iv)
theorem zV{prog:Program}{w:World}{A:Around}{E:Value→Shared→Prop}{s:Shared}{env:Env}{value slice:Expr}{pos:Pos}{T id:String}{Q:Value→Shared→Prop}
 (hl:typeLookup (.type T) "__getitem__"=pure (some (.builtin id))) (hs:EM slice)
 (h:wpAny (model prog w) A (eval value env) (fun o s₁=>wpAny (model prog w) A (eval slice env) (fun i s₂=>s₂.TypeIs o T∧wpAny (model prog w) A (getItem o i) Q E s₂) E s₁) E s):
 wpAny (model prog w) A (eval (.Subscript value slice pos) env) Q E s:=by
 refine Subscript_ (wpAny_mono h (fun o s₁ h₁=>wpAny_mono h₁ (fun i s₂ h₂=>?_) fun _ _ x=>x) fun _ _ x=>x)
 obtain⟨hT,h₂⟩:=h₂
 unfold subscriptTail;refine wpAny_bind ?_;rw [getitemInPython_of_ne hT.not_modules];refine wpAny_bind (wpAny_specialOf hT hl ?_);have fin:wpAny (model prog w) A (subscripted slice false o i) (fun r s₃=>wpAny (model prog w) A (letTemporaryGo value o r>>=fun _=>pure r) Q E s₃) E s₂:=by
  rw [hs o i];exact wpAny_operating (wpAny_mono h₂ (fun r s₃ h₃=>wpAny_bind (wpAny_letTemporaryGo (wpAny_pure h₃))) fun _ _ x=>x)
 first
  |exact wpAny_pure (wpAny_bind fin)
  |exact wpAny_bind (wpAny_pure (wpAny_bind fin))
  |exact wpAny_bind fin
theorem pC{X:Cx}{pins:List (Addr×Obj)}{σ:St}{H:Hp}{s:Shared}{a:Addr}{y:V}{o:Option V}(I:Inv X pins σ H s)(g:Ah H a y o):s.TypeIs (.ref a) "dict":=by
 rcases g with⟨au,k,e,_,_⟩|⟨au,k,b,e,_,_,_⟩
 ·obtain⟨_,_,vs,_,dd⟩:=qc I.hok e
  exact dd.typeIs
 ·obtain⟨_,_,xs,_,dd⟩:=kI I.hok e
  exact dd.typeIs
def A9(td ty:TE):TE:=fun σ H Q=>td σ H fun x H1=>ty σ H1 fun y H2=>∃a v,x=.ref a∧Ah H2 a y (some v)∧Q v H2
section
variable{X:Cx}{o i e value:Expr}{pos pos' iF:Pos}{td ty tv:TE}
theorem zF(hu:X.A.units+1<cLine)(ho:PE X o td)(hi:PE X i ty)(hs:EM i):PE X (.Subscript o i pos) (A9 td ty):=by
 intro pins s σ H Q I h;refine zV PySem.F.slot_dict_getitem.lookup hs (bC (ho pins s σ H _ I h) fun u s1 ⟨x,H1,I1,rx,q1⟩=>bC (hi pins s1 σ H1 _ I1 q1) fun iv s2 ⟨y,H2,I2,ry,a,v,ex,g,q2⟩=>?_)
 subst ex;obtain rfl:u=Value.ref a:=rx
 exact⟨pC I2 g,uc hu I2 g ry fun w' s3 I3 gh=>⟨v,H2,I3,gh,q2⟩⟩
end
theorem kg{P:Program}{w:World}{H:Hp}(h:Heap)(hb:sysModules<h.objs.size):bM P w H (h.push {cls:=.type "dict",data:=.dict #[]}) h.objs.size (.dT []):=
 ⟨Nat.zero_le _,beq_eq_false_iff_ne.mpr (Ne.symm (Nat.ne_of_lt hb)),[],.nil,_,#[],0,Heap.get?_push_size _ rfl,⟨rfl,rfl,rfl⟩,rfl,rfl,List.nodup_nil⟩
def Dx:TE:=fun _ H Q=>∀p,H p=none→Q (.ref p) (upd H p (.dT []))
section
variable{X:Cx}{pos:Pos}
theorem vV:PE X (.Dict [] [] pos) Dx:=fun pins s σ H Q I h=>
 wpAny_Dict_empty ⟨.ref s.heap.objs.size,_,I.laid (a:=s.heap.objs.size) (o:=.dT []) (t':=s.toks) (fun _ _ q=>Heap.get?_push_of_some _ q) (Nat.le_refl _) (kg s.heap I.big),rfl,h _ (I.hok.fresh (Nat.le_refl _))⟩
end
structure M1(X:Cx)(o:Expr)(m:Str)(apos:Pos)(e:Expr)(br:Pos):Prop where
 base:attributeBase o m X.env (eval o X.env)=eval o X.env
 few:((backTo br (starEach [e] X.env)).all (fun x=>!x.1)&&(backToKw br (keywordEach [] X.env)).all (fun x=>x.1.isSome)
  &&decide (([e]:List Expr).length+([]:List Keyword).length+(if([]:List Keyword).isEmpty then 0 else 1)<30))=true
 line:(apos.endLine==br.line)=true
 trees:backTo br (starEach [e] X.env)=[(false,eval e X.env)]
structure M2(X:Cx)(o:Expr)(m:Str)(apos:Pos)(e f:Expr)(br:Pos):Prop where
 base:attributeBase o m X.env (eval o X.env)=eval o X.env
 few:((backTo br (starEach [e,f] X.env)).all (fun x=>!x.1)&&(backToKw br (keywordEach [] X.env)).all (fun x=>x.1.isSome)
  &&decide (([e,f]:List Expr).length+([]:List Keyword).length+(if([]:List Keyword).isEmpty then 0 else 1)<30))=true
 line:(apos.endLine==br.line)=true
 trees:backTo br (starEach [e,f] X.env)=[(false,eval e X.env),(false,eval f X.env)]
def Bb(H:Hp)(a:Addr):Prop:=(∃au,Rd H a (.dK au))∨∃au,Rd H a (.dT au)
theorem B5{X:Cx}{pins:List (Addr×Obj)}{σ:St}{H:Hp}{s:Shared}{a:Addr}(I:Inv X pins σ H s)(d:Bb H a):
 s.TypeIs (.ref a) "dict"∧(∀b,Value.ref a=.ref b→∃ob,s.heap.get? b=some ob∧ob.dict=none)∧(a==sysModules)=false:=by
 rcases d with⟨au,e⟩|⟨au,e⟩
 ·obtain⟨_,hd,vs,_,dd⟩:=qc I.hok e
  refine⟨dd.typeIs,fun b q=>?_,hd⟩
  cases q;obtain⟨ob,_,_,h1,h2,_⟩:=dd
  exact⟨ob,h1,h2.2.1⟩
 ·obtain⟨_,hd,xs,_,dd⟩:=kI I.hok e
  refine⟨dd.typeIs,fun b q=>?_,hd⟩
  cases q;obtain⟨ob,_,_,h1,h2,_⟩:=dd
  exact⟨ob,h1,h2.2.1⟩
section
variable{X:Cx}{pins:List (Addr×Obj)}{σ:St}{H:Hp}{s:Shared}{a:Addr}{y d:V}{u r:Value}{o:Option V}{A:Around}{E:Value→Shared→Prop}
end
section
variable{X:Cx}{o e f:Expr}{apos br:Pos}{td ty tx:TE}
end
section
variable{X:Cx}{pins:List (Addr×Obj)}{σ:St}{H:Hp}{s:Shared}{a:Addr}{au:List (Key×V)}{A:Around}{E:Value→Shared→Prop}
end
section
variable{X:Cx}{pins:List (Addr×Obj)}{σ:St}{H:Hp}{s:Shared}{a:Addr}{y:V}{u:Value}{A:Around}{E:Value→Shared→Prop}
end
end L2
namespace Att
open PySem PySem.W PySem.Calls PyProof.Rows
section
variable{prog:Program}{w:World}{A:Around}{E:Value→Shared→Prop}{s:Shared}{K:Frag}
end
end Att
namespace L2
open PySem PySem.Spec PyProof.Rows
end L2
namespace L2
open PySem PySem.Spec PyProof.Rows
end L2
namespace L2
open PySem PySem.Spec PyProof.Rows
section
variable{P:Program}{w:World}{K:PySem.W.Frag}{mg:Str→Option Value}{base:Heap}
end
section
variable{X:Cx}
end
section
variable{κ:Type} [DecidableEq κ]
theorem uA{p:κ×V}{r:List (κ×V)}{k:κ}(e:p.1=k):e8 (p::r) k=e8 r k:=by
 unfold e8;rw [List.filter_cons,if_neg (by simp [e])]
theorem uW{p:κ×V}{r:List (κ×V)}{k:κ}(e:¬p.1=k):e8 (p::r) k=p::e8 r k:=by
 unfold e8;rw [List.filter_cons,if_pos (by simp [e])]
end
end L2
namespace L2
open PySem PySem.Spec PyProof.Rows
section
variable{prog:Program}{w:World}{κ:Type} [DecidableEq κ]{knd:HeapKind prog w κ}{A:Around}{E:Value→Shared→Prop}{s:Shared}{d a:Addr}{xs:List (κ×Addr×Value)}{k:κ}
theorem nv(d:Addr)(lo:(d==sysModules)=false):MeetsIn prog w (Builtin.«dict.__len__» ⟨[.ref d],[]⟩) (fun _ R s=>∃xs,s.heap.DictOfH knd d xs∧R (.ok (.ret (.int xs.length s.toks))) {s with toks:=s.toks+1}):=
 .of_wp fun A R s ⟨xs,⟨o,es,ep,h1,_,h2,h3,_⟩,h⟩=>by
  show wpAny _ _ (dictSize d>>=fun n=>_) _ _ s
  unfold dictSize;refine wpAny_bind (wpAny_bind (wpAny_dictEntries h1 h2 (wpAny_pure (wpAny_bind (wpAny_pendingCount_other lo (wpAny_ret_mkInt ?_))))));rw [Nat.add_zero,size_of_entries h3];exact h
theorem DK{Q:Value→Shared→Prop}(lo:(d==sysModules)=false)(hm:s.heap.DictOfH knd d xs)(hf:(xs.length:Int)<2^63)(h:Q (.int xs.length (s.toks+1)) {s with toks:=s.toks+1+1}):wpAny (model prog w) A (call (.builtin "len") [.ref d]) Q E s:=by
 refine Calls.call_function_entry kind_len plain_len entry_len (args_len1 _) ?_;unfold Builtin.«len»;refine wpAny_bind (m:=oneArg "len" _) (wpAny_pure (wpAny_bind (m:=callSpecial? (.ref d) (Str.ofString "__len__")) (wpAny_callSpecial?_slot (name:=Str.ofString "__len__") hm.typeIs F.slot_dict_len
  (call_meetsIn F.slot_dict_len hm.typeIs F.entry_dict_len (F.args_dict_len_1 _) (nv (knd:=knd) d lo) ⟨xs,hm,?_⟩))))
 show wpAny _ _ (holding _ _>>=fun z=>_) _ _ {s with toks:=s.toks+1}
 refine wpAny_bind (wpAny_holding (wpAny_pure (wpAny_bind (wpAny_letGo ?_))));show wpAny _ _ (if((xs.length:Nat):Int)<0 then _ else(if((xs.length:Nat):Int)≥2^63 then _ else _)) _ _ _;rw [if_neg (by omega),if_neg (by omega)];exact wpAny_bind (wpAny_mkInt (wpAny_pure ⟨_,rfl,h⟩))
theorem xE{l:List (κ×Addr×Value)}:∀{j:Nat} {p:Addr×Value},(l.map (·.1)).Nodup→l[j]?=some (k,p)→l.eraseIdx j=l.filter fun x=>decide (x.1≠k):=by
 induction l with
 |nil=>intro j p _ h;simp at h
 |cons x r ih=>
  intro j p nd h;rw [List.map_cons,List.nodup_cons] at nd;cases j with
  |zero=>
   simp only [List.getElem?_cons_zero,Option.some.injEq] at h;subst h;simp only [List.eraseIdx_cons_zero,ne_eq,List.filter_cons,not_true,decide_false,Bool.false_eq_true,if_false];refine(List.filter_eq_self.mpr fun y hy=>?_).symm;exact decide_eq_true fun e=>nd.1 (e▸List.mem_map_of_mem (f:=(·.1)) hy)
  |succ j=>
   simp only [List.getElem?_cons_succ] at h;have fc:¬x.1=k:=fun e=>nd.1 (e▸List.mem_map.mpr ⟨(k,p),List.mem_of_getElem? h,rfl⟩)
   rw [List.eraseIdx_cons_succ,List.filter_cons,if_pos (by simpa using fc),ih nd.2 h]
theorem my{α β:Type}(f:α→β):∀(l:List α) (j:Nat),(l.eraseIdx j).map f=(l.map f).eraseIdx j
 |[],_=>by simp
 |x::r,0=>by simp
 |x::r,j+1=>by simp [my f r j]
theorem qg{p:Addr×Value}{Q:Option DictEntry→Shared→Prop}(hu:knd.room A)(hk:knd.is s.heap k a)(hm:s.heap.DictOfH knd d xs)(hp:atKey xs k=some p)(hz:xs.length≤sizeLine)
 (hQ:∀h' e,e.val=p.2→h'.DictOfH knd d (xs.filter fun x=>decide (x.1≠k))→Heap.SameBut d s.heap h'→Q (some e) {s with heap:=h',toks:=s.toks+knd.draws k}):wpAny (model prog w) A (Builtin.Dict.takeOut d (.ref a)) Q E s:=by
 obtain⟨o,es,ep,h1,hc,h2,h3,his,nd⟩:=hm
 unfold Builtin.Dict.takeOut
 try with_reducible refine wpAny_holding ?_
 refine wpAny_bind (knd.pyHash hu hk (wpAny_bind (wpAny_dictFind_heap (s:={s with toks:=s.toks+knd.draws k}) hu hk h1 h2 h3 his nd (fun no=>?_) fun j q hj=>?_)))
 ·rw [atKey_none_of_get no] at hp;cases hp
 ·rw [atKey_of_get nd hj] at hp;cases hp;refine wpAny_bind (wpAny_dictEntries (s:={s with toks:=s.toks+knd.draws k}) h1 h2 ?_);rw [entry_at h3 j,hj];refine wpAny_bind (wpAny_updateDictKeys (hz:=by have e:=size_of_entries h3;omega) (s:={s with toks:=s.toks+knd.draws k}) h1 h2 (wpAny_pure (hQ _ _ rfl ⟨_,_,ep+1,Heap.get?_update_self _ h1 (Obj.isFreed_of_dict (Obj.data_mapDictKeys h2 _)),
   hc.mapDictKeys _,Obj.data_mapDictKeys h2 _,?_,fun x hx=>knd.keeps (his x (List.mem_filter.mp hx).1) h1 h2 (Heap.SameBut.update ..),nd.sublist (List.filter_sublist.map _)⟩ (Heap.SameBut.update ..))))
  rw [←xE nd hj,my,←h3];obtain⟨l⟩:=es
  simp [Array.eraseIdxIfInBounds];split
  ·simp
  ·rename_i hh;rw [List.eraseIdx_of_length_le (by simpa using hh)]
theorem n6(d a:Addr):MeetsIn prog w (Builtin.«dict.pop» ⟨[.ref d,.ref a],[]⟩) (fun A R s=>knd.room A.in1∧∃k xs p,knd.is s.heap k a∧s.heap.DictOfH knd d xs∧xs.length≤sizeLine∧atKey xs k=some p∧
 ∀h',h'.DictOfH knd d (xs.filter fun x=>decide (x.1≠k))→Heap.SameBut d s.heap h'→R (.ok (.ret p.2)) {s with heap:=h',toks:=s.toks+knd.draws k}):=
 .of_wp fun A R s ⟨hu,k,xs,p,hk,hm,hz,hp,h⟩=>by
  obtain⟨o,es,ep,h1,_,h2,h3,_⟩:=id hm
  have ne:es.isEmpty=false:=by
   cases xs with
   |nil=>cases hp
   |cons x r=>
    have:=size_of_entries h3
    rw [List.length_cons] at this;rw [Array.isEmpty_eq_false_iff_exists_mem];exact⟨es[0]'(by omega),Array.getElem_mem _⟩
  unfold Builtin.«dict.pop»;refine wpAny_bind ?_;unfold Builtin.Dict.keyAndDefault;refine wpAny_bind (wpAny_notOrdered_dict hm.typeIs ?_);show wpAny _ _ (pure (d,Value.ref a,Option.none)) _ _ s;refine wpAny_pure ?_;have kp:(keyPart (Value.ref a)).isSome=false:=rfl
  simp only [kp,Bool.false_eq_true,if_false];refine wpAny_bind (wpAny_dictEntries h1 h2 (wpAny_bind (wpAny_pure ?_)));rw [ne];simp only [Bool.false_eq_true,if_false];refine wpAny_bind (qg hu hk hm hp hz fun h' e ev pM hs=>?_);simp only [Option.isNone_some,Bool.false_eq_true,if_false];exact wpAny_bind (wpAny_letGo (wpAny_pure ⟨e.val,rfl,by rw [ev];exact h h' pM hs⟩))
theorem nt{o:Obj}{es:Array DictEntry}{ep:Nat}{Q:Value→Shared→Prop}(lo:(d==sysModules)=false)(h1:s.heap.get? d=some o)(hc:o.ExactDict)(h2:o.data=.dict es ep)
 (hQ:Q (.ref s.heap.objs.size) {s with heap:=s.heap.push {cls:=.type "dict_keyiterator",data:=.fields #[.ref d,.int 0 0,.int es.size 0,.int ep 0]}}):wpAny (model prog w) A (pyIter (.ref d)) Q E s:=by
 have T:s.TypeIs (.ref d) "dict":=⟨o,h1,hc.1⟩
 refine wpAny_pyIter_slot T F.slot_dict_iter (wpAny_call_entry F.slot_dict_iter T F.entry_dict_iter ?_ (F.args_dict_iter_1 _));unfold Builtin.«dict.__iter__» Builtin.Dict.dictSlotNone;refine wpAny_bind (wpAny_bind (wpAny_notOrdered_dict T ?_));show wpAny _ _ (pure (Value.ref d):Sem Value) _ _ s;refine wpAny_pure ?_;show wpAny _ _ (Builtin.Dict.showsAll d>>=fun _=>_) _ _ s;unfold Builtin.Dict.showsAll;rw [if_neg (by rw [lo];exact zzf)];refine wpAny_bind (wpAny_pure (wpAny_bind (wpAny_dictEntries h1 h2 (wpAny_bind (wpAny_dictEpoch h1 h2 ?_)))));refine wpAny_bind (wpAny_newObj_type (wpAny_pure ⟨_,rfl,"dict_keyiterator",_,⟨_,Heap.get?_push_size _ rfl,rfl⟩,F.slot_dict_keyiterator_next.lookup,?_⟩))
 simpa [rawInt] using hQ
theorem jk{it:Addr}{i ep:Nat}{o:Obj}{es:Array DictEntry}{Q:Option Value→Shared→Prop}(st:s.heap.IsKeyIter it d i es.size ep)(h1:s.heap.get? d=some o)(h2:o.data=.dict es ep)(hi:i<es.size)
 (hQ:∀h',h'.IsKeyIter it d (i+1) es.size ep→Heap.SameBut it s.heap h'→Q (some es[i].key) {s with heap:=h'}):wpAny (model prog w) A (pyNext (.ref it)) Q E s:=by
 obtain⟨oi,g1,g2,g3⟩:=id st
 have own:Builtin.Dict_items.ownsTuple "dict_keyiterator"=false:=by decide
 unfold pyNext;refine wpAny_bind (wpAny_attempt (wpAny_callSpecial?_slot (name:=Str.ofString "__next__") st.typeIs F.slot_dict_keyiterator_next (wpAny_call_entry F.slot_dict_keyiterator_next st.typeIs F.entry_dict_keyiterator_next ?_ (F.args_dict_keyiterator_next_1 _))));refine wpAny_bind (wpAny_pure (wpAny_bind (wpAny_bind ?_)))
 first|refine wpAny_bind (wpAny_typeNameOfWhole_keyiter st.typeIs (wpAny_pure (wpAny_bind (wpAny_fieldsOf g1 g3 ?_))))|refine wpAny_bind (wpAny_typeNameOf_keyiter st.typeIs (wpAny_pure (wpAny_bind (wpAny_fieldsOf g1 g3 ?_))))
 simp only [own,Bool.false_eq_true,if_false];show wpAny _ _ (if(Value.ref d==Value.none)=true then _ else _:Sem _) _ _ s;rw [if_neg (show¬((Value.ref d==Value.none)=true) from zzf)];refine wpAny_bind (wpAny_pure (wpAny_bind (wpAny_dictEntries h1 h2 ?_)));rw [if_neg (by simp)];refine wpAny_bind (wpAny_pure (wpAny_bind (wpAny_dictEpoch h1 h2 ?_)));rw [if_neg (by simp)];refine wpAny_pure ?_;simp only [show¬((i:Int)<0) from by omega,if_false,Int.toNat_natCast,Array.getElem?_eq_getElem hi];refine wpAny_bind ?_
 first|refine wpAny_bind (wpAny_typeNameOfWhole_keyiter st.typeIs (wpAny_pure (wpAny_bind (wpAny_isOneOf_keyiter st.typeIs ?_))))|refine wpAny_bind (wpAny_typeNameOf_keyiter st.typeIs (wpAny_pure (wpAny_bind (wpAny_isOneOf_keyiter st.typeIs ?_))))
 show wpAny _ _ (setField (.ref it) 1 (rawInt ((i:Int)+1))>>=fun _=>_) _ _ s
 have iw:(s.heap.update it (Obj.mapFields (·.setIfInBounds 1 (rawInt ((i:Int)+1))))).IsKeyIter it d (i+1) es.size ep:=
  ⟨_,Heap.get?_update_self _ g1 (Obj.isFreed_of_fields (Obj.data_mapFields g3 _)),(Obj.cls_mapFields ..).trans g2,by rw [Obj.data_mapFields g3];simp [rawInt]⟩
 refine wpAny_bind (wpAny_setField g1 g3 (by simp) (wpAny_bind (wpAny_holding (wpAny_bind (wpAny_isOneOf_keyiter (s:={s with heap:=s.heap.update it (Obj.mapFields (·.setIfInBounds 1 (rawInt ((i:Int)+1))))}) iw.typeIs ?_)))));show wpAny _ _ (pure es[i].key:Sem Value) _ _ _;exact wpAny_pure (wpAny_pure ⟨_,rfl,wpAny_pure (hQ _ iw (Heap.SameBut.update ..))⟩)
theorem qQ{it:Addr}{i ep:Nat}{o:Obj}{es:Array DictEntry}{Q:Option Value→Shared→Prop}(hh:A.handled=none)(st:s.heap.IsKeyIter it d i es.size ep)(h1:s.heap.get? d=some o)(h2:o.data=.dict es ep)(hi:es.size≤i)
 (hQ:∀h',Heap.ExtBut it s.heap h'→Q none {s with heap:=h'}):wpAny (model prog w) A (pyNext (.ref it)) Q E s:=by
 obtain⟨oi,g1,g2,g3⟩:=id st
 have own:Builtin.Dict_items.ownsTuple "dict_keyiterator"=false:=by decide
 unfold pyNext;refine wpAny_bind (wpAny_attempt (wpAny_callSpecial?_slot (name:=Str.ofString "__next__") st.typeIs F.slot_dict_keyiterator_next (wpAny_call_entry F.slot_dict_keyiterator_next st.typeIs F.entry_dict_keyiterator_next ?_ (F.args_dict_keyiterator_next_1 _))));refine wpAny_bind (wpAny_pure (wpAny_bind (wpAny_bind ?_)))
 first|refine wpAny_bind (wpAny_typeNameOfWhole_keyiter st.typeIs (wpAny_pure (wpAny_bind (wpAny_fieldsOf g1 g3 ?_))))|refine wpAny_bind (wpAny_typeNameOf_keyiter st.typeIs (wpAny_pure (wpAny_bind (wpAny_fieldsOf g1 g3 ?_))))
 simp only [own,Bool.false_eq_true,if_false];show wpAny _ _ (if(Value.ref d==Value.none)=true then _ else _:Sem _) _ _ s;rw [if_neg (show¬((Value.ref d==Value.none)=true) from zzf)];refine wpAny_bind (wpAny_pure (wpAny_bind (wpAny_dictEntries h1 h2 ?_)));rw [if_neg (by simp)];refine wpAny_bind (wpAny_pure (wpAny_bind (wpAny_dictEpoch h1 h2 ?_)));rw [if_neg (by simp)];refine wpAny_pure ?_;simp only [show¬((i:Int)<0) from by omega,if_false,Int.toNat_natCast,Array.getElem?_eq_none hi];refine wpAny_bind ?_
 first|refine wpAny_bind (wpAny_typeNameOfWhole_keyiter st.typeIs (wpAny_pure ?_))|refine wpAny_bind (wpAny_typeNameOf_keyiter st.typeIs (wpAny_pure ?_))
 show wpAny _ _ (setField (.ref it) 0 .none>>=fun _=>_) _ _ s
 refine wpAny_bind (wpAny_setField g1 g3 (by simp) ?_);show wpAny _ _ (newExc (.type "StopIteration") []>>=fun _=>_) _ _ _
 refine wpAny_bind ?_;simp only [newExc,newTuple];refine wpAny_bind (wpAny_newObj_type (wpAny_bind (m:=firstArgMember _ _) (wpAny_of_eq (a:=Value.none) (by first|rfl|(simp only [firstArgMember];rfl)) (wpAny_newObj_type ?_ (by size_fits)))) (by size_fits));simp only [raiseNew];refine wpAny_bind (wpAny_handled ?_);rw [show A.in1.handled=none from hh];refine wpAny_bind (wpAny_pure (wpAny_throw ?_));refine wpAny_bind (wpAny_isInstance (T:="StopIteration") (b:=true) ⟨_,Heap.get?_push_size _ rfl,rfl⟩ isSubtype_stop ?_);exact wpAny_pure (hQ _ (((Heap.SameBut.update ..).extBut.push _).push _))
end
end L2
namespace L2
open PySem PySem.Spec PyProof.Rows
theorem KT.drop{H:Hp}{au:List (List Key×V)}{xs:List (List Key×Addr×Value)}(r:KT H au xs)(k:List Key):KT H (e8 au k) (xs.filter fun x=>decide (x.1≠k)):=by
 unfold e8
 induction r with
 |nil=>exact .nil
 |@cons p q ps qs h t ih=>
  rw [List.filter_cons,List.filter_cons,←h.1];split
  ·exact .cons h ih
  ·exact ih
theorem KT.len{H:Hp}{au:List (List Key×V)}{xs:List (List Key×Addr×Value)}(r:KT H au xs):au.length=xs.length:=Paired.length r
section
variable{X:Cx}{pins:List (Addr×Obj)}{σ:St}{H:Hp}{s:Shared}{a b:Addr}{au:List (List Key×V)}{k:List Key}{A:Around}{E:Value→Shared→Prop}
theorem Dd{Q:Value→Shared→Prop}(I:Inv X pins σ H s)(e:Rd H a (.dT au))(h:∀t s',Inv X pins σ H s'→Q (.int au.length t) s'):wpAny (model X.prog X.w) A (call (.builtin "len") [.ref a]) Q E s:=by
 obtain⟨z,lo,xs,rel,dd⟩:=kI I.hok e
 refine DK lo dd (by rw [←rel.len];rw [sizeLine_eq] at z;omega) ?_;rw [←rel.len];exact h _ _ (I.tok _)
theorem D8{v:V}{Q:Value→Shared→Prop}(hu:A.units+1<cLine)(I:Inv X pins σ H s)(e:H a=some (.dT au))(eb:H b=some (.tup (k.map kV)))(l:f6 au k=some v)
 (h:∀w' s',Inv X pins σ (upd H a (.dT (e8 au k))) s'→RelV v w'→Q w' s'):wpAny (model X.prog X.w) A (call (.builtin "dict.pop") [.ref a,.ref b]) Q E s:=by
 obtain⟨z,lo,xs,rel,dd⟩:=v8 I.hok e
 obtain⟨w',hw,gh⟩:=i9.some_of (v:=v) (o:=(atKey xs k).map (·.2)) (by rw [←l];exact rel.val k)
 obtain⟨p,hp,hp2⟩:=Option.map_eq_some_iff.mp hw
 refine call_meetsIn PySem.F.slot_dict_pop dd.typeIs PySem.F.entry_dict_pop (PySem.F.args_dict_pop_2 _ _) (n6 (knd:=tupleKind (bE X.prog X.w)) a b) ⟨tupleKind_room_in1 hu,k,xs,p,gD I.hok eb,dd,by rw [←rel.len];exact z,hp,fun h' Bd hs=>?_⟩
 rw [hp2];obtain⟨q,es,ep,hq,h2,h3,h4,_,h5⟩:=Bd
 refine h w' _ (fT I (by rw [e];exact True.intro) hs ⟨q,hq⟩ ⟨Nat.le_trans (xw au k) z,lo,_,(rel.drop k).keeps fun c ys ec=>?_,q,es,ep,hq,h2,h3,h4,h5⟩) gh
 rw [aa (ei ec e (fun z=>nomatch z))];exact ec
theorem Inv.freeze(I:Inv X pins σ H s)(e:H a=some (.dT au)):∃o,Inv X pins σ (upd H a (.frz o (.dT au))) s:=by
 obtain⟨z,lo,xs,rel,o,es,ep,h1,h2,h3,h4,h5⟩:=(show bM X.prog X.w H s.heap a (.dT au) from I.hok a _ e)
 refine⟨o,fT (h':=s.heap) (t':=s.toks) I (by rw [e];exact True.intro) ⟨rfl,fun _ _=>rfl⟩ ⟨o,h1⟩ ⟨h1,z,lo,xs,?_,o,es,ep,h1,h2,h3,h4,h5⟩⟩
 exact KT.keeps (H:=H) rel fun c ys ec=>by rw [aa (ei ec e (fun z=>nomatch z))];exact ec
end
noncomputable def I0(a:Addr)(o:Obj)(au:List (List Key×V)):It:=
 ⟨fun i H=>H a=some (.frz o (.dT au))∧i<au.length,fun i H x H'=>H'=H∧∃b k v,x=.ref b∧au[i]?=some (k,v)∧H b=some (.tup (k.map kV)),fun i H=>H a=some (.frz o (.dT au))∧au.length≤i⟩
theorem fq{X:Cx}{pins:List (Addr×Obj)}{σ:St}{H:Hp}{s:Shared}{a:Addr}{o:Obj}{au:List (List Key×V)}(I:Inv X pins σ H s)(e:H a=some (.frz o (.dT au))):
 (a==sysModules)=false∧s.heap.get? a=some o∧o.ExactDict∧∃es ep,o.data=.dict es ep∧es.size=au.length∧∀(i:Nat) (h:i<es.size),∃b k v,es[i].key=.ref b∧au[i]?=some (k,v)∧H b=some (.tup (k.map kV)):=by
 obtain⟨h0,z,lo,xs,rel,o',es,ep,h1,h2,h3,h4,h5⟩:=(show bM X.prog X.w H s.heap a (.frz o (.dT au)) from I.hok a _ e)
 rw [h0] at h1;cases h1;have hl:es.size=xs.length:=size_of_entries h4
 refine⟨lo,h0,h2,es,ep,h3,hl.trans (KT.len rel).symm,fun i hi=>?_⟩
 have hx:i<xs.length:=by omega
 have e1:es[i]?=(xs[i]?).map (entryOfKey (tupleKind (bE X.prog X.w))):=entry_at h4 i
 rw [List.getElem?_eq_getElem hx,Array.getElem?_eq_getElem hi] at e1;have hk:i<au.length:=by have:=KT.len rel;omega
 have pr:∀{l:List (List Key×V)} {m:List (List Key×Addr×Value)},KT H l m→∀(j:Nat) p q,l[j]?=some p→m[j]?=some q→p.1=q.1∧H q.2.1=some (.tup (p.1.map kV)):=by
  intro l m r
  induction r with
  |nil=>intro j p q h;simp at h
  |cons h t ih=>
   intro j p q h1 h2;cases j with
   |zero=>simp at h1 h2;subst h1 h2;exact⟨h.1,h.2.1⟩
   |succ j=>simp at h1 h2;exact ih j p q h1 h2
 obtain⟨g1,g2⟩:=pr (KT.keeps (H':=H) rel fun _ _ z=>z) i au[i] xs[i] (List.getElem?_eq_getElem hk) (List.getElem?_eq_getElem hx)
 refine⟨xs[i].2.1,au[i].1,au[i].2,?_,List.getElem?_eq_getElem hk,g2⟩;have e2:es[i]=entryOfKey (tupleKind (bE X.prog X.w)) xs[i]:=Option.some.inj e1
 rw [e2]
 rfl
theorem tQ{P:Program}{w:World}{K:PySem.W.Frag}{tg:Expr}{a it:Addr}{o:Obj}{es:Array DictEntry}{ep:Nat}{au:List (List Key×V)}(hd:o.data=.dict es ep)(hl:es.size=au.length):
 Turn P w K tg (I0 a o au) [it] it (fun i h=>h.IsKeyIter it a i es.size ep) where
 mem:=by simp
 obj:=fun i h st b hb=>by
  have e:b=it:=by simpa using hb
  subst e;obtain⟨q,e,c,d⟩:=st
  exact⟨q,e,fun v z=>by rw [d] at z;cases z⟩
 keep:=fun i h h' st k=>st.at fun o e=>k it (by simp) o e
 item:=by
  intro X hP hw hK hc i pins s σ H E I hf st hg;subst hP hw hK;obtain⟨g1,g2⟩:=hg
  obtain⟨lo,h0,hx,es',ep',h3,vo,vw⟩:=fq I g1
  rw [hd] at h3;cases h3;obtain⟨f0,f1,f2,f3,f4,f5⟩:=hf it (by simp)
  have hi:i<es.size:=by omega
  refine jk st h0 hd hi fun h' iw sb=>?_
  obtain⟨b,k,v,e1,e2,e3⟩:=vw i hi
  have I1:Inv X pins σ H {s with heap:=h'}:=I.turned (t':=s.toks) (fun b o hb e=>(sb.2 b hb).trans e) f0 f1 f3 f4 f5
  obtain⟨q,e,c,d⟩:=id iw
  refine⟨_,rfl,sI (s:={s with heap:=h'}) e c d (by decide) ⟨.ref b,H,I1,?_,⟨rfl,b,k,v,rfl,e2,e3⟩,iw,fun b hb=>(hf b hb).1⟩⟩
  rw [e1];exact rfl
 done:=by
  intro X hP hw hK hc i pins s σ H E I hf st hg;subst hP hw hK;obtain⟨g1,g2⟩:=hg
  obtain⟨lo,h0,hx,es',ep',h3,vo,vw⟩:=fq I g1
  rw [hd] at h3;cases h3;obtain⟨f0,f1,f2,f3,f4,f5⟩:=hf it (by simp)
  exact qQ (I.ok.hd hc) st h0 hd (by omega) fun h' eb=>⟨rfl,I.turned (t':=s.toks) (fun b o hb e=>eb b o hb e) f0 f1 f3 f4 f5⟩
 self:=fun _ _ _ _ _ st h=>wpAny_pyIter_keyiter st h
noncomputable def Js(tl:TE):TI:=fun σ H R=>tl σ H fun x H1=>∃a o au,x=.ref a∧H1 a=some (.frz o (.dT au))∧R (I0 a o au) H1
section
variable{X:Cx}{o e:Expr}{apos br:Pos}{td ty:TE}
theorem CU{tg l:Expr}{tl:TE}(hl:PE X l tl):PI X tg l (Js tl):=by
 intro pins s σ H R I h;refine bC (hl pins s σ H _ I h) fun v s1 ⟨x,H1,I1,r1,q1⟩=>?_
 obtain⟨a,o,au,e,hq,q⟩:=q1
 subst e;cases r1;obtain⟨lo,h0,hx,es,ep,h3,vo,vw⟩:=fq I1 hq
 refine nt lo h0 hx h3 ?_;refine⟨s1.heap.objs.size,[s1.heap.objs.size],_,_,H1,rfl,I1.kept (t':=s1.toks) fun b o e=>Heap.get?_push_of_some _ e,tQ h3 vo,⟨_,Heap.get?_push_size _ rfl,rfl,rfl⟩,fun b hb=>?_,q⟩
 have e:b=s1.heap.objs.size:=by simpa using hb
 subst e;exact I1.fpOk (Nat.le_refl _) (I1.hok.fresh (Nat.le_refl _))
noncomputable def FX(td ty:TE):TE:=fun σ H Q=>td σ H fun x H1=>∃a,x=.ref a∧Bb H1 a∧ty σ H1 fun y H2=>∃au k b v,H2 a=some (.dT au)∧y=.ref b∧H2 b=some (.tup (k.map kV))∧f6 au k=some v∧Q v (upd H2 a (.dT (e8 au k)))
theorem zo(hu:X.A.units+1<cLine)(ho:PE X o td)(he:PE X e ty)(m:M1 X o "pop" apos e br):PE X (.Call (.Attribute o "pop" apos) [e] [] br) (FX td ty):=by
 intro pins s σ H Q I h;refine wpAny_Call_method m.base m.few m.line PySem.F.plainAttrs_dict PySem.F.slot_dict_pop PySem.F.type_dict_pop (bC (ho pins s σ H _ I h) fun u s1 ⟨x,H1,I1,rx,a,ex,d,q1⟩=>?_)
 subst ex;obtain rfl:u=Value.ref a:=rx
 obtain⟨t1,t2,_⟩:=B5 I1 d
 refine⟨t1,t2,?_⟩;rw [m.trees];refine Calls.callWith_builtin rfl (Calls.evalArgs_plain (Calls.spliced_cons (bC (he pins s1 σ H1 _ I1 q1) fun iv s2 ⟨y,H2,I2,ry,au,k,b,v,ea,ey,eb,l,q2⟩=>Calls.spliced_nil ?_)))
 subst ey;cases(show iv=Value.ref b from ry);exact D8 hu I2 ea eb l fun w' s3 I3 gh=>⟨v,_,I3,gh,q2⟩
end
end L2
namespace L2
open PySem PySem.Spec PyProof.Rows PySem.W
def gr{α:Type}(lt:Nat→Nat→Bool):KasT α→α
 |.ret a=>a
 |.ask i j k=>gr lt (k (lt i j))
def dv{α:Type}(n:Nat)(R:α→Prop):KasT α→Prop
 |.ret a=>R a
 |.ask i j k=>i<n∧j<n∧∀b,dv n R (k b)
theorem dv.bind{α β:Type}{n:Nat}{R:α→Prop}{R':β→Prop}{f:α→KasT β}(hf:∀a,R a→dv n R' (f a)):∀(t:KasT α),dv n R t→dv n R' (t.bind f)
 |.ret a,h=>hf a h
 |.ask i j k,h=>⟨h.1,h.2.1,fun b=>dv.bind hf (k b) (h.2.2 b)⟩
theorem dv.run{α:Type}{n:Nat}{R:α→Prop}(lt:Nat→Nat→Bool):∀(t:KasT α),dv n R t→R (gr lt t)
 |.ret a,h=>h
 |.ask i j k,h=>dv.run lt (k (lt i j)) (h.2.2 _)
theorem vF{α:Type}{n:Nat}{R:α→Prop}{cmp:Nat→Nat→(Bool→Shared→Prop)→Shared→Prop}{lt:Nat→Nat→Bool}{Q:α→Shared→Prop}{s:Shared}
 (hc:∀i j C,i<n→j<n→C (lt i j) s→cmp i j C s):∀(t:KasT α),dv n R t→Q (gr lt t) s→t.kasWp cmp Q s
 |.ret a,_,h=>h
 |.ask i j k,a,h=>hc i j _ a.1 a.2.1 (vF hc (k (lt i j)) (a.2.2 _) h)
abbrev Pm(n:Nat)(p:Array Nat):Prop:=p.toList.Perm (List.range n)
theorem Pm.lt{n:Nat}{p:Array Nat}(h:Pm n p)(h0:0<n)(i:Nat):p.getD i 0<n:=by
 rw [Array.getD_eq_getD_getElem?];cases e:p[i]? with
 |none=>exact h0
 |some x=>
  have:x∈p.toList:=by rw [Array.mem_toList_iff];exact Array.mem_of_getElem? e
  exact List.mem_range.mp (h.mem_iff.mp this)
theorem Pm.rev{n:Nat}{p:Array Nat}(h:Pm n p)(i j:Nat):Pm n (kas_rev p i j):=(mirror_perm p i j _).toList.trans h
theorem Pm.bub{n:Nat}{p:Array Nat}(h:Pm n p)(i j:Nat):Pm n (bubble p i j):=(bubble_perm p i j).toList.trans h
section
variable{n:Nat}(h0:0<n)
include h0
theorem jm{p:Array Nat}(h:Pm n p):∀f m,dv n (fun _=>True) (kas_asc p f m)
 |0,m=>trivial
 |f+1,m=>⟨h.lt h0 _,h.lt h0 _,fun b=>by dsimp only;split;exact trivial;exact jm h f (m+1)⟩
theorem fW:∀f (p:Array Nat) m q,Pm n p→dv n (fun r=>Pm n r.1) (kas_desc f p m q)
 |0,p,m,q,h=>h
 |f+1,p,m,q,h=>⟨h.lt h0 _,h.lt h0 _,fun b=>by
  cases b with
  |true=>
   dsimp only;rw [if_pos rfl];split
   ·exact fW f _ _ _ (h.rev _ _)
   ·exact fW f _ _ _ h
  |false=>
   dsimp only;rw [if_neg (by simp)];exact⟨h.lt h0 _,h.lt h0 _,fun b=>by dsimp only;split;exact h;exact fW f _ _ _ h⟩⟩
theorem lO{p:Array Nat}(h:Pm n p)(m r:Nat):dv n (fun r=>Pm n r.2) (kas_tail3 m r p):=by
 unfold kas_tail3;refine dv.bind (R:=fun _=>True) (fun a _=>?_) _ (jm h0 (h.rev _ _) _ _);exact h.rev 0 m
theorem lI{p:Array Nat}(h:Pm n p)(m r:Nat):dv n (fun r=>Pm n r.2) (kas_descPart m r p):=dv.bind (fun a ha=>by
 split
 ·exact lO h0 (Pm.rev ha _ _) _ _
 ·exact lO h0 ha _ _) _ (fW h0 _ _ _ _ h)
theorem qq{p:Array Nat}(h:Pm n p)(r:Nat):dv n (fun r=>Pm n r.2) (kas_count r p):=dv.bind (fun a _=>by
 split
 ·exact h
 ·split
  ·exact⟨h.lt h0 _,h.lt h0 _,fun b=>by dsimp only;split;exact h;exact lI h0 (h.rev _ _) _ _⟩
  ·exact lI h0 h _ _) _ (jm h0 h _ _)
theorem gk{p:Array Nat}(h:Pm n p)(k:Nat):∀f l r,dv n (fun _=>True) (kas_place p k f l r)
 |0,l,r=>trivial
 |f+1,l,r=>by
  unfold kas_place;split
  ·exact trivial
  ·exact⟨h.lt h0 _,h.lt h0 _,fun b=>by dsimp only;split;exact gk h k f _ _;exact gk h k f _ _⟩
theorem oK:∀f (p:Array Nat) k,Pm n p→dv n (Pm n) (kas_bin f p k)
 |0,p,k,h=>h
 |f+1,p,k,h=>dv.bind (fun l _=>oK f _ _ (h.bub _ _)) _ (gk h0 h k _ _ _)
theorem l0:dv n (Pm n) (kas_sort n):=dv.bind (fun a ha=>by
 split
 ·exact oK h0 _ _ _ ha
 ·exact ha) _ (qq h0 (List.Perm.refl _) n)
end
def qk(n:Nat)(lt:Nat→Nat→Bool):List Nat:=(gr lt (kas_sort n)).toList
theorem pZ{n:Nat}(h:0<n)(lt:Nat→Nat→Bool):(qk n lt).Perm (List.range n):=dv.run lt _ (l0 h)
section
variable{prog:Program}{w:World}{A:Around}{E:Value→Shared→Prop}{s:Shared}{a:Addr}{vs:List Value}{nss:List (List Int)}
theorem kO{S:Addr}{h:Heap}{c:Nat}{xs ys:Array Value}(e:h.get? S=some (seqObj "list" xs c)):∃c',(h.update S (Obj.mapSeq fun _=>ys)).get? S=some (seqObj "list" ys c'):=⟨_,get?_update_seq e fun _=>ys⟩
theorem kR{α β:Type}{R:α→β→Prop}{l:List α}{m:List β}(r:Paired R l m):∀{i:Nat} {p:α} {q:β},l[i]?=some p→m[i]?=some q→R p q:=by
 induction r with
 |nil=>intro i p q h;simp at h
 |cons h t ih=>
  intro i p q h1 h2;cases i with
  |zero=>simp at h1 h2;subst h1 h2;exact h
  |succ i=>simp at h1 h2;exact ih h1 h2
def fx(h:Heap)(vs:List Value)(nss:List (List Int)):Prop:=Paired (fun v ns=>∃b o aq n,v=.ref b∧h.get? b=some o∧o.cls=.type "tuple"∧o.data=.seq aq n∧Vals (ns.map V.int) aq.toList∧ns≠[]) vs nss
theorem fx.keep{h h':Heap}(t:fx h vs nss)(k:∀b o,h.get? b=some o→o.cls=.type "tuple"→h'.get? b=some o):fx h' vs nss:=
 Paired.mapP t fun _ _ ⟨b,o,aq,n,e1,e2,e3,e4,e5,e6⟩=>⟨b,o,aq,n,e1,k b o e2 e3,e3,e4,e5,e6⟩
theorem jy{b:Bool}{Q:Bool→Shared→Prop}:∀(ns ms:List Int) (xs ys:List Value) (i:Nat),Vals (ns.map V.int) xs→Vals (ms.map V.int) ys→Q (HT.lexLt ns ms) s→KatLex prog w A b (decide (xs.length<ys.length)) Q (xs.zip ys) i s
 |[],[],_,_,i,.nil,.nil,h=>by simpa [KatLex,HT.lexLt_nil_nil] using h
 |[],m::ms,_,_,i,.nil,.cons _ _,h=>by simpa [KatLex,HT.lexLt] using h
 |n::ns,[],_,_,i,.cons _ _,.nil,h=>by simpa [KatLex,HT.lexLt] using h
 |n::ns,m::ms,_,_,i,.cons (a:=_) (b:=u) h1 t1,.cons (b:=v) h2 t2,h=>by
  obtain⟨t,rfl⟩:=h1
  obtain⟨t',rfl⟩:=h2
  rw [HT.lexLt_cons] at h;refine kat_cons (wpAny_eqBool_int ?_)
  by_cases e:n=m
  ·subst e;rw [if_pos rfl] at h;rw [show(n==n)=true from by simp];refine kat_yes ?_;have:=jy (b:=b) ns ms _ _ (i+1) t1 t2 h
   simp only [List.length_cons,Nat.add_lt_add_iff_right];exact this
  ·rw [if_neg e] at h;rw [show(n==m)=false from by simpa using e];refine kat_no ?_;cases hb:(b&&i==0) with
   |true=>exact oneLt_int h
   |false=>exact kat_one _ _ (PyProof.Rows.lt_int h)
theorem uv{n:Nat}{P:PySem.Fin→Shared→Prop}(ho:s.heap.get? a=some (seqObj "list" vs.toArray n))(h2:2≤vs.length)(yl:vs.length<64)(t:fx s.heap vs nss)
 (h:∀h' c,(∀b o,b≠a→s.heap.get? b=some o→h'.get? b=some o)→h'.get? a=some (seqObj "list" ((qk vs.length fun i j=>HT.lexLt (nss.getD i []) (nss.getD j [])).map fun i=>vs.getD i Value.none).toArray c)→P (.done (.ret .none)) {s with heap:=h'}):
 wpAny (model prog w) A (Builtin.«list.sort» ⟨[.ref a],[]⟩) P E s:=by
 have s1:=Heap.SameBut.update s.heap a (Obj.mapSeq fun _=>(#[]:Array Value))
 obtain⟨e1,ho1⟩:∃e1,(s.heap.update a (Obj.mapSeq fun _=>(#[]:Array Value))).get? a=some (seqObj "list" #[] e1):=⟨_,get?_update_seq ho fun _=>#[]⟩
 have hlen:vs.length=nss.length:=Paired.length t
 generalize hH:(((s.heap.update a (Obj.mapSeq fun _=>(#[]:Array Value))).push (seqObj "tuple" vs.toArray 0)).push (seqObj "list" #[] 0))=H1
 have k1:∀b o,b≠a→s.heap.get? b=some o→H1.get? b=some o:=fun b o hb e=>by rw [←hH];exact Heap.get?_push_of_some _ (Heap.get?_push_of_some _ ((s1.2 b hb).trans e))
 have a1:H1.get? a=some (seqObj "list" #[] e1):=by rw [←hH];exact Heap.get?_push_of_some _ (Heap.get?_push_of_some _ ho1)
 have t1:fx H1 vs nss:=t.keep fun b o e c=>k1 b o (fun z=>by rw [z,ho] at e;cases e;exact absurd (show Value.type "list"=Value.type "tuple" from c) (by decide)) e
 rw [list_sort_plain];refine wpAny_bind (listItems_at ho rfl (wpAny_bind (listUpdate_at ho rfl ?_ (by rw [List.size_toArray,sizeLine_eq];omega) (Nat.zero_le _))));refine wpAny_bind (seqEpoch_at ho1 rfl (wpAny_bind (wpAny_newTuple ?_ (by show vs.length≤_;rw [sizeLine_eq];omega))));refine wpAny_bind (wpAny_newList ?_ (Nat.zero_le _));refine wpAny_holding ?_;show wpAny (model prog w) A _ P E {s with heap:=((s.heap.update a (Obj.mapSeq fun _=>(#[]:Array Value))).push (seqObj "tuple" vs.toArray 0)).push (seqObj "list" #[] 0)}
 rw [hH];dsimp only;have Bq:¬vs.toArray.size<2:=by rw [List.size_toArray];omega
 rw [if_neg Bq,if_neg Bq];have kt:∃fs,KatTups H1 vs fs∧fs.length=vs.length∧∀v∈fs,∃i t,v=.int i t:=by
  clear h ho hlen h2 yl k1 a1 hH t Bq
  have go:∀{vs:List Value} {nss:List (List Int)},fx H1 vs nss→∃fs,KatTups H1 vs fs∧fs.length=vs.length∧∀v∈fs,∃i t,v=.int i t:=by
   intro vs nss t
   induction t with
   |nil=>exact⟨[],trivial,rfl,fun v hv=>nomatch hv⟩
   |cons h t ih=>
    obtain⟨fs,i1,i2,i3⟩:=ih
    obtain⟨b,o,aq,n,rfl,g1,g2,g3,g4,g5⟩:=h
    rename_i v ns l l2;cases ns with
    |nil=>exact absurd rfl g5
    |cons m ms=>
     rw [List.map_cons] at g4;cases hi:aq.toList with
     |nil=>rw [hi] at g4;cases g4
     |cons f r=>
      rw [hi] at g4;cases g4 with
      |cons r1 r2=>
       obtain⟨tk,rfl⟩:=r1
       have f0:aq[0]?=some (.int m tk):=by rw [←Array.getElem?_toList,hi];rfl
       exact⟨.int m tk::fs,.cons g1 g2 g3 f0 i1,by simp [i2],fun v hv=>by
        rcases List.mem_cons.mp hv with rfl|hv
        ·exact⟨m,tk,rfl⟩
        ·exact i3 v hv⟩
  exact go t1
 obtain⟨fs,kt1,kt2,kt3⟩:=kt
 refine wpAny_bind (kat_kind (T:=.type "int") (s:={s with heap:=H1}) kt1 (by omega) (fun v hv=>?_) rfl ?_)
 ·obtain⟨i,t,rfl⟩:=kt3 v hv
  exact .now
 have NR:∀i j (C:Bool→Shared→Prop),i<vs.length→j<vs.length→C (HT.lexLt (nss.getD i []) (nss.getD j [])) {s with heap:=H1}→kas_ask prog w A (tuples' (Value.type "int" !=Value.type "tuple")) vs i j C {s with heap:=H1}:=by
  intro i j C hi hj hC;unfold kas_ask;obtain⟨b,o,aq,n,e1,g1,g2,g3,g4,_⟩:=kR t1 (List.getElem?_eq_getElem hi) (List.getElem?_eq_getElem (show i<nss.length by omega))
  obtain⟨b',o',its',n',e1',Cc,E8,g3',g4',_⟩:=kR t1 (List.getElem?_eq_getElem hj) (List.getElem?_eq_getElem (show j<nss.length by omega))
  have v1:vs.getD i Value.none=.ref b:=by simp [hi,e1]
  have v2:vs.getD j Value.none=.ref b':=by simp [hj,e1']
  have n1:nss.getD i []=nss[i]'(by omega):=by simp [show i<nss.length by omega]
  have n2:nss.getD j []=nss[j]'(by omega):=by simp [show j<nss.length by omega]
  rw [v1,v2];rw [n1,n2] at hC;refine kat_lt (s:={s with heap:=H1}) g1 g3 Cc g3' ?_;have:=jy (prog:=prog) (w:=w) (A:=A) (b:=(Value.type "int" !=Value.type "tuple")) _ _ _ _ 0 g4 g4' hC
  simpa using this
 refine wpAny_bind (wpAny_mono (kat_run (Q:=fun iw s'=>∃p:Array Nat,p.size=vs.length∧arrOf iw=p.map (kas_item (vs.toArray.zip vs.toArray))∧failedOf iw=none∧p=gr (fun i j=>HT.lexLt (nss.getD i []) (nss.getD j [])) (kas_sort vs.length)∧s'={s with heap:=H1})
  rfl h2 yl (fun p' iw s' a1 a2 a3 a4=>⟨p',a1,a2,a3,a4⟩) (vF NR _ (l0 (by omega)) ⟨rfl,rfl⟩)) ?_ fun _ _ e=>e)
 rintro ⟨⟨⟩,iw⟩ s' ⟨p,hp,har,hf,rfl,rfl⟩
 dsimp only;have D0:=kat_snds rfl har
 rw [D0];have s2:=Heap.SameBut.update H1 a (Obj.mapSeq fun _=>List.toArray ((gr (fun i j=>HT.lexLt (nss.getD i []) (nss.getD j [])) (kas_sort vs.length)).toList.map fun i=>vs.getD i Value.none))
 obtain⟨c2,hc2⟩:=kO (ys:=List.toArray ((gr (fun i j=>HT.lexLt (nss.getD i []) (nss.getD j [])) (kas_sort vs.length)).toList.map fun i=>vs.getD i Value.none)) a1
 refine wpAny_bind (seqEpoch_at a1 rfl (wpAny_bind (listUpdate_at a1 rfl ?_ (Nat.zero_le _) (by
  show(List.toArray _).size≤_
  rw [List.size_toArray,List.length_map,Array.length_toList,hp,sizeLine_eq];omega))))
 rw [hf];simp only [bne_self_eq_false,Bool.false_eq_true,if_false];exact wpAny_pure (h _ c2 (fun b o hb e=>(s2.2 b hb).trans (k1 b o hb e)) hc2)
end
end L2
namespace L2
open PySem PySem.Spec PyProof.Rows
theorem uG:typeLookup (.type "list") "keys"=pure none:=by rw [typeLookup_type,builtinLookup_eq_fast];kernel_rfl
theorem oC:entryFor table "dict.update.loop"=some Builtin.«dict.update.loop»:=entryFor_of_tree (by kernel_rfl)
theorem hW:plainId "dict.update.loop"=true:=by decide+kernel
section
variable{prog:Program}{w:World}{A:Around}{E:Value→Shared→Prop}{s:Shared}{a:Addr}{o:Obj}{xs:Array Value}{k:Nat}
theorem yT{Q:Option Value→Shared→Prop}(hx:s.heap.get? a=some o)(hc:o.cls=.type "list")(F2:o.data=.seq xs k)(hd:o.dict=none)(hA:A.handled=none)
 (h:∀h' tk,(∀b o,s.heap.get? b=some o→h'.get? b=some o)→Q none {s with heap:=h',toks:=tk}):wpAny (model prog w) A (getAttr? (.ref a) "keys") Q E s:=by
 obtain⟨c,dct,dat,sl⟩:=o
 simp only at hc F2 hd;subst hc F2 hd;obtain⟨hp,g,d,tk,os⟩:=s
 have hT:∀JF,(⟨hp,g,d,JF,os⟩:Shared).TypeIs (.ref a) "list":=fun _=>⟨_,hx,rfl⟩
 have f1:=sub_AttributeError
 have f3:=F.slot_list_getattribute.lookup
 have f4:=F.slot_list_getattribute.bind (.ref a)
 have f5:=am_list_getattr_none
 unfold getAttr? getAttrBy? getAttrBy
 repeat (any_goals (first|assumption|exact hT _|((with_reducible show wpAny _ _ (call (Value.builtin "list.__getattribute__") _ _) _ _ _);refine call_meets F.slot_list_getattribute (hT _) am_entry_list_getattribute (F.args_list_getattribute_2 _ _) (meets_getattribute_miss_list a xs k sl "keys" _ uG (by decide) (by size_fits)) ⟨hx,hA,fun h' JF e vp=>?_⟩)|wp_step))
 obtain⟨t',u',he⟩:=vp.there
 show wpAny _ _ (getattributeRaised _ _ _ _ _ _ _) _ _ _
 unfold getattributeRaised
 repeat (any_goals (first|assumption|wp_step))
 exact h h' JF vp.keeps
end
def gB(au more:List (List Key×V)):List (List Key×V):=more.foldl (fun acc kv=>putK acc kv.1 kv.2) au
abbrev iX(K:PySem.W.Frag)(H:Hp)(vs:List V)(au:List (List Key×V)):Prop:=Paired (fun v kv=>∃q b,v=V.ref q∧ez K H q [.ref b,kv.2]∧H b=some (.tup (kv.1.map kV))) vs au
section
variable{X:Cx}{pins:List (Addr×Obj)}{σ:St}{l d it:Addr}{vs:List V}{A:Around}{E:Value→Shared→Prop}{R:Result→Shared→Prop}
theorem xR{H:Hp}{s:Shared}{a b:Addr}{au:List (List Key×V)}{k:List Key}{v:V}{r:Value}{Q:Unit→Shared→Prop}(hu:A.units<cLine)(I:Inv X pins σ H s)(e:H a=some (.dT au))(eb:H b=some (.tup (k.map kV)))(l:au.length<sizeLine)(rv:RelV v r)
 (h:∀h' t,Heap.SameBut a s.heap h'→Inv X pins σ (upd H a (.dT (putK au k v))) {s with heap:=h',toks:=t}→Q () {s with heap:=h',toks:=t}):wpAny (model X.prog X.w) A (dictSet a (.ref b) r) Q E s:=by
 obtain⟨z,lo,xs,rel,dd⟩:=v8 I.hok e
 have hz:xs.length≤sizeLine:=by rw [←rel.len];exact z
 have hl:(putK au k v).length≤sizeLine:=by have:=dU au k v;omega
 refine wpAny_dictSet_heap (hsz:=hz) (knd:=tupleKind (bE X.prog X.w)) hu (gD I.hok eb) dd fun h' Bd hs=>h h' _ hs ?_
 obtain⟨q,es,ep,hq,h2,h3,h4,_,h5⟩:=Bd
 refine fT I (by rw [e];exact True.intro) hs ⟨q,hq⟩ ⟨hl,lo,_,(rel.put k eb rv).keeps fun c ys ec=>?_,q,es,ep,hq,h2,h3,h4,h5⟩
 rw [aa (ei ec e (fun z=>nomatch z))];exact ec
theorem ez.far{K:PySem.W.Frag}{H H':Hp}{a:Addr}{xs:List V}(h:ez K H a xs)(e:∀b,b≠d→H' b=H b){acc:List (List Key×V)}(hd:H d=some (.dT acc)):ez K H' a xs:=by
 rcases h with(h|⟨o,h⟩)|h
 ·exact .inl (.inl (by rw [e a (ei h hd (fun z=>nomatch z))];exact h))
 ·exact .inl (.inr ⟨o,by rw [e a (ei h hd (fun z=>nomatch z))];exact h⟩)
 ·exact .inr h
theorem eh.far{K:PySem.W.Frag}{H H':Hp}{a:Addr}{xs:List V}(h:eh K H a xs)(e:∀b,b≠d→H' b=H b){acc:List (List Key×V)}(hd:H d=some (.dT acc)):eh K H' a xs:=by
 rcases h with(h|⟨o,h⟩)|h
 ·exact .inl (.inl (by rw [e a (ei h hd (fun z=>nomatch z))];exact h))
 ·exact .inl (.inr ⟨o,by rw [e a (ei h hd (fun z=>nomatch z))];exact h⟩)
 ·exact .inr h
theorem iX.far{K:PySem.W.Frag}{H H':Hp}{au:List (List Key×V)}(e:∀b,b≠d→H' b=H b){acc:List (List Key×V)}(hd:H d=some (.dT acc)):∀{vs:List V},iX K H vs au→iX K H' vs au:=fun h=>
 Paired.mapP h fun _ _ ⟨q,b,e1,e2,e3⟩=>⟨q,b,e1,ez.far e2 e hd,by rw [e b (ei e3 hd (fun z=>nomatch z))];exact e3⟩
theorem yy(hu:A.units+1<cLine)(hh:A.handled=none):∀(rest:List (List Key×V)) (i:Nat) (j:Int) (acc:List (List Key×V)) (H:Hp) (s:Shared),Inv X pins σ H s→du X pins H it→s.heap.IsListIter it l i→eh X.K H l vs→iX X.K H (vs.drop i) rest→H d=some (.dT acc)→acc.length+rest.length≤sizeLine→
 (∀s' H',Inv X pins σ H' s'→H' d=some (.dT (gB acc rest))→(∀b,b≠d→H' b=H b)→R (.ok (.ret .none)) s')→codeAny (model X.prog X.w) A (.builtin "dict.update.loop" ⟨[.ref d,.ref it,rawInt j,.none],[]⟩) R s:=by
 intro rest
 induction rest with
 |nil=>
  intro i j acc H s I hf st hl pr hd hz k;obtain⟨aq,rv,p,_⟩:=I.list hl
  obtain⟨f0,f1,f2,f3,f4,f5⟩:=hf
  have hi:vs.length≤i:=List.drop_eq_nil_iff.mp (by cases h:vs.drop i with|nil=>rfl|cons x r=>rw [h] at pr;cases pr)
  have hle:=rv.length
  refine codeAny_builtin oC ?_;rw [Around.under_plainId hW _];show wpAny _ A.in1 (pyNext (.ref it)>>=fun z=>_) _ _ s
  refine wpAny_bind (wpAny_pyNext_list_end hh st p.isList (by simp;omega) fun h' eb=>?_)
  show wpAny _ _ (Builtin.Dict.addKeywords d []>>=fun _=>_) _ _ _
  exact wpAny_bind (wpAny_pure (wpAny_pure (k _ H (I.turned (t':=s.toks) (fun b o hb e=>eb b o hb e) f0 f1 f3 f4 f5) hd fun _ _=>rfl)))
 |cons kv rest ih=>
  intro i j acc H s I hf st hl pr hd hz k;obtain⟨aq,rv,p,_⟩:=I.list hl
  obtain⟨f0,f1,f2,f3,f4,f5⟩:=id hf
  obtain⟨v,vr,hv,⟨q,b,rfl,hq,hb⟩,pr'⟩:∃v vr,vs.drop i=v::vr∧(∃q b,v=V.ref q∧ez X.K H q [.ref b,kv.2]∧H b=some (.tup (kv.1.map kV)))∧iX X.K H vr rest:=by
   cases h:vs.drop i with
   |nil=>rw [h] at pr;cases pr
   |cons x r=>rw [h] at pr;cases pr with|cons h1 h2=>exact⟨x,r,rfl,h1,h2⟩
  have F4:vs[i]?=some (.ref q):=by rw [←List.head?_drop,hv];rfl
  have NI:vs.drop (i+1)=vr:=by rw [←List.drop_drop,hv];rfl
  obtain⟨u,Ag,ru⟩:=rv.get F4
  cases(show u=Value.ref q from ru);refine codeAny_builtin oC ?_;rw [Around.under_plainId hW _];show wpAny _ A.in1 (pyNext (.ref it)>>=fun z=>_) _ _ s
  refine wpAny_bind (wpAny_pyNext_list_item st p.isList (x:=Value.ref q) (by simpa using Ag) fun h' iw sb=>?_)
  have I1:Inv X pins σ H {s with heap:=h'}:=I.turned (t':=s.toks) (fun b o hb e=>(sb.2 b hb).trans e) f0 f1 f3 f4 f5
  obtain⟨aD,rv2,p2,_⟩:=I1.tuple hq
  obtain⟨o2,g1,g2,n2,g3⟩:=id p2
  obtain⟨u1,u2,rfl,ru1,ru2⟩:∃u1 u2,aD=[u1,u2]∧RelV (.ref b) u1∧RelV kv.2 u2:=by
   cases rv2 with|cons h1 h2=>cases h2 with|cons h3 h4=>cases h4;exact⟨_,_,rfl,h1,h3⟩
  cases(show u1=Value.ref b from ru1);show wpAny _ A.in1 (holding [Value.ref q] _>>=fun z=>_) _ _ {s with heap:=h'};refine wpAny_bind (wpAny_holding (wpAny_bind (wpAny_tryCatch ?_)));unfold Builtin.Dict.pairItems;refine wpAny_bind (wpAny_typeOf (s:={s with heap:=h'}) ⟨o2,g1,g2⟩ ?_);rw [if_pos (by decide)];refine wpAny_bind (wpAny_seqItems g1 g3 (wpAny_pure ?_));show wpAny _ A.in1 (holding [Value.ref b,u2] (dictSet d (.ref b) u2)) _ _ _;refine wpAny_holding (xR hu I1 hd hb (by rw [List.length_cons] at hz;omega) ru2 fun h2 t2 ML I2=>?_)
  have far:∀c,c≠d→upd H d (.dT (putK acc kv.1 kv.2)) c=H c:=fun c hc=>aa hc
  have nd:it≠d:=fun z=>by rw [z,hd] at f0;cases f0
  refine wpAny_pure ⟨plainId_quiet hW _,ih (i+1) (j+1) _ _ _ I2 ⟨by rw [far _ nd];exact f0,f1,f2,f3,f4,f5⟩ (iw.at fun o e=>(ML.2 it nd).trans e) (eh.far hl far hd) (iX.far far hd (by rw [NI];exact pr')) ag ?_ fun s' H' J1 J2 J3=>k s' H' J1 J2 fun c hc=>(J3 c hc).trans (far c hc)⟩
  have:=dU acc kv.1 kv.2
  rw [List.length_cons] at hz;omega
theorem qG(hc:X.calm=true)(hu:X.A.units+3<cLine):b9 X (.type "dict") (fun xs H Q=>∃l vs au,xs=[V.ref l]∧eh X.K H l vs∧iX X.K H vs au∧∀p o,H p=none→Q (.ref p) (upd H p (.frz o (.dT (gB [] au))))):=by
 intro pins s σ H xs us Q I r h;obtain⟨l,vs,au,rfl,hl,pr,q⟩:=h
 obtain⟨u,rfl,ru⟩:=vals1 r
 cases ru;have hh:X.A.handled=none:=I.ok.hd hc
 refine callType_codes (Q₁:=fun obj s₁=>obj=.ref s.heap.objs.size∧s₁={s with heap:=s.heap.push {cls:=.type "dict",data:=.dict #[]}}) F.kt_called_dict (F.kt_typeCall_dict_1 _) F.entry_dict_init (kt_code_dict_new _ ⟨rfl,rfl⟩) ?_
 rintro obj s₁ ⟨rfl,rfl⟩
 have hn:H s.heap.objs.size=none:=I.hok.fresh (Nat.le_refl _)
 have I1:=I.laid (a:=s.heap.objs.size) (o:=.dT []) (t':=s.toks) (fun _ _ q=>Heap.get?_push_of_some _ q) (Nat.le_refl _) (kg s.heap I.big)
 have T:(⟨s.heap.push {cls:=.type "dict",data:=.dict #[]},s.gens,s.drawn,s.toks,s.os⟩:Shared).TypeIs (.ref s.heap.objs.size) "dict":=⟨_,Heap.get?_push_size _ rfl,rfl⟩
 have far:∀c,c≠s.heap.objs.size→upd H s.heap.objs.size (.dT []) c=H c:=fun c hc=>aa hc
 have same:ay H (upd H s.heap.objs.size (.dT [])):=bh hn
 have F7:eh X.K (upd H s.heap.objs.size (.dT [])) l vs:=same.seq hl
 obtain⟨aq,rv,p,hz⟩:=I1.list F7
 obtain⟨o,n,g1,g2,g3,g4⟩:=id p
 refine⟨T,F.args_dict_init_2 _ _,?_⟩;unfold Builtin.«dict.__init__» Builtin.Dict.selfAndRest;refine wpAny_bind (wpAny_bind (wpAny_notOrdered_dict T ?_));show wpAny _ _ (pure (s.heap.objs.size,[Value.ref l]):Sem _) _ _ _;refine wpAny_pure ?_;show wpAny _ _ (Builtin.Dict.updateFrom "dict.__init__" s.heap.objs.size (.ref l) [] .none) _ _ _;unfold Builtin.Dict.updateFrom;refine wpAny_bind (wpAny_typeOf ⟨o,g1,g2⟩ ?_);rw [if_pos (by decide)];refine wpAny_bind (yT g1 g2 g4 g3 hh fun h' tk hk=>?_);rw [if_pos (by decide)];refine wpAny_bind (wpAny_rule ?_);have I2:=I1.kept (h':=h') (t':=tk) hk
 obtain⟨its',rv',p',_⟩:=I2.list F7
 refine wpAny_bind (wpAny_pyIter_list p'.isList ?_);have I3:=I2.kept (h':=h'.push {cls:=.type "list_iterator",data:=.fields #[.ref l,.int 0 0]}) (t':=tk) fun b o e=>Heap.get?_push_of_some _ e
 have Mq:(h'.push {cls:=.type "list_iterator",data:=.fields #[.ref l,.int 0 0]}).IsListIter h'.objs.size l 0:=⟨_,Heap.get?_push_size _ rfl,rfl,rfl⟩
 have MH:du X pins (upd H s.heap.objs.size (.dT [])) h'.objs.size:=I2.fpOk (Nat.le_refl _) (I2.hok.fresh (Nat.le_refl _))
 refine wpAny_pure ⟨plainId_quiet hW _,yy (X:=X) (A:=X.A.in1) (pins:=pins) (σ:=σ) (l:=l) (d:=s.heap.objs.size) (it:=h'.objs.size) (vs:=vs) (by show X.A.units+1+1<cLine;omega) (show X.A.in1.handled=none from hh) au 0 0 [] _ _ I3 MH Mq F7 ?_ ag ?_ fun s' H' J1 J2 J3=>⟨rfl,?_⟩⟩
 ·exact Paired.mapP pr fun _ _ ⟨q,b,e1,e2,e3⟩=>⟨q,b,e1,(show ez X.K _ q _ from by
   rcases e2 with(e2|⟨o,e2⟩)|e2
   ·exact .inl (.inl (same _ _ e2))
   ·exact .inl (.inr ⟨o,same _ _ e2⟩)
   ·exact .inr e2),same _ _ e3⟩
 ·have:=Paired.length pr
  rw [List.length_nil];omega
 ·obtain⟨o,J4⟩:=J1.freeze J2
  have e:upd H' s.heap.objs.size (.frz o (.dT (gB [] au)))=upd H s.heap.objs.size (.frz o (.dT (gB [] au))):=by
   funext b
   by_cases hb:b=s.heap.objs.size
   ·rw [hb,ag,ag]
   ·rw [aa hb,aa hb,J3 b hb,aa hb]
  rw [e] at J4;exact⟨.ref s.heap.objs.size,_,J4,rfl,q _ _ hn⟩
end
end L2
namespace L2
open PySem PySem.Spec PyProof.Rows
structure wZ(H Hw:Hp)(d:Addr)(o:Obj)(au:List (List Key×V)):Prop where
 at_:Hw d=some (.frz o (.dT au))
 dt:H d=some (.dT au)
 same:∀b u,H b=some u→b≠d→Hw b=some u
 new:∀b u,Hw b=some u→H b=none→∃ob,u=.frz ob bA
section
variable{P:Program}{w:World}{H Hw:Hp}{d:Addr}{o:Obj}{au:List (List Key×V)}{fs:List Addr}{h h':Heap}
theorem wZ.back(z:wZ H Hw d o au)(u:Un fs [] Hw Hw h h')(k:dN P w Hw h)(k':dN P w Hw h'):Un fs [] H H h h'∧dN P w H h'∧h'.get? d=some o:=by
 have fz:∀b ob,Hw b=some (.frz ob bA)→∀o,h.get? b=some o→h'.get? b=some o:=fun b ob e o q=>by
  have h1:h.get? b=some ob:=(k b _ e).1
  have h2:h'.get? b=some ob:=(k' b _ e).1
  rw [h1] at q;cases q;exact h2
 have st:∀c v,Hw c=some v→(∀ob u,v≠.frz ob u)→H c=some v:=fun c v e n=>by
  cases q:H c with
  |none=>obtain⟨ob,rfl⟩:=z.new c v e q;exact absurd rfl (n ob _)
  |some u=>
   by_cases hc:c=d
   ·subst hc;rw [z.at_] at e;cases e;exact absurd rfl (n _ _)
   ·rw [z.same c u q hc] at e;exact e
 refine⟨⟨fun b ob e n hb hx=>?_,fun b ob e n hb hx=>?_,fun b ob e n hx=>n,fun b ob e hx=>u.there b ob e hx,fun _ _ e=>e,fun _ _ _ e=>e,fun b ps e=>⟨#[],by simpa using e⟩⟩,fun b v e=>?_,(k' d _ z.at_).1⟩
 ·cases q:Hw b with
  |none=>exact u.keep b ob e q hb hx
  |some v=>obtain⟨o',rfl⟩:=z.new b v q n;exact fz b o' q ob e
 ·cases q:Hw b with
  |none=>exact u.slot b ob e q hb hx
  |some v=>obtain⟨o',rfl⟩:=z.new b v q n;exact⟨ob.slots,fz b o' q ob e⟩
 ·have go:∀v,bM P w Hw h' b v→bM P w H h' b v:=fun v y=>y.stay (fun _ _ _ r=>r) (fun c r=>st c _ r (fun _ _ z=>nomatch z)) fun c xs r=>st c _ r (fun _ _ z=>nomatch z)
  by_cases hb:b=d
  ·subst hb;rw [z.dt] at e;cases e;exact go _ (k' b _ z.at_).2
  ·exact go v (k' b v (z.same b v e hb))
end
structure qi(p y:Str)(params:Arguments)(body:Expr)(scope:Scope):Prop where
 body:∃q1 q2 q3 q4 q5 j,body=.Subscript (.Subscript (.Name y q1) (.Name p q2) q3) (.Constant (.int 0) j q4) q5
 sc:pF [p] [y] scope
 d1:(p==("__debug__":Str))=false
 d2:(p==("__classdict__":Str))=false
 d3:(y==("__debug__":Str))=false
 d4:(y==("__classdict__":Str))=false
section
variable{X:Cx}{pins:List (Addr×Obj)}{σ:St}{H:Hp}{s:Shared}{d f c c' b:Addr}{o oc:Obj}{au:List (List Key×V)}{kk:Nat}{p y qual:Str}{params:Arguments}{body:Expr}{scope:Scope}{pm eR:Value}{cF:Array Value}{ct:Tok}{k:List Key}{q:Addr}{n:Int}{r:List V}{A:Around}{E:Value→Shared→Prop}
theorem xQ(hA:A=X.A.in1)(L:qi p y params body scope)(hr:df (kk+1) X.A)(I:Inv X pins σ H s)(hd:H d=some (.dT au))(ho:s.heap.get? d=some o)
 (dF:X.env.cells.lookup y=some c) (Kl:X.s₀.heap.objs.size≤c) (Ms:s.heap.IsCell c (some (.ref d)))
 (hf:H f=some (.frz (PySem.W.kla_obj "<lambda>" qual params body scope [(y,c)] pm c' eR) bA)) (gq:H c'=some (.frz oc bA)) (rf:oc.data=.fields cF) (BC:cF[1]?=some (.str qual ct))
 (hb:∀u,bindArgs (PySem.W.kla_fn "<lambda>" qual params body scope [(y,c)] pm (.ref c') eR) ⟨[u],[]⟩=pure ([p].zip [u]))
 (Gu:H b=some (.tup (k.map kV))) (hv:f6 au k=some (.ref q)) (hq:ez X.K H q (.int n::r)):
 wpAny (model X.prog X.w) A (call (.ref f) [.ref b]) (fun u s'=>(∃t,u=.int n t)∧Inv X pins σ H s'∧s'.heap.get? d=some o) E s:=by
 subst hA;obtain⟨q1,q2,q3,q4,q5,j,rfl⟩:=L.body
 obtain⟨ocell,g1,g2⟩:=id Ms
 have zK:H c=none:=I.freeC y c dF
 obtain⟨z0,lo,xs,rel,o',es,ep,h1,h2,h3,h4,h5⟩:=(show bM X.prog X.w H s.heap d (.dT au) from I.hok d _ hd)
 rw [ho] at h1;cases h1;have If:Inv X pins σ (upd H d (.frz o (.dT au))) s:=by
  refine fT (h':=s.heap) (t':=s.toks) I (by rw [hd];exact True.intro) ⟨rfl,fun _ _=>rfl⟩ ⟨o,ho⟩ ⟨ho,z0,lo,xs,?_,o,es,ep,ho,h2,h3,h4,h5⟩
  exact KT.keeps (H:=H) rel fun c ys ec=>by rw [aa (ei ec hd (fun z=>nomatch z))];exact ec
 have NC:c≠d:=fun z=>by rw [z,hd] at zK;cases zK
 have MP:f≠d:=ei hf hd (fun z=>nomatch z)
 have IS:c'≠d:=ei gq hd (fun z=>nomatch z)
 have zA:qZ [(c,ocell)] (upd H d (.frz o (.dT au))) (d0 X.stack) s.heap:=by
  have lk:∀b o,List.lookup b [(c,ocell)]=some o→b=c∧o=ocell:=fun b o e=>by
   rw [List.lookup_cons] at e;cases vy:b==c with
   |true=>rw [vy] at e;cases e;exact⟨beq_iff_eq.mp vy,rfl⟩
   |false=>rw [vy] at e;cases e
  refine⟨fun b o e=>?_,fun b o e=>?_,fun b o e=>?_⟩
  ·obtain⟨rfl,rfl⟩:=lk b o e;exact g1
  ·obtain⟨rfl,rfl⟩:=lk b o e;rw [aa NC];exact zK
  ·obtain⟨rfl,rfl⟩:=lk b o e
   intro Jt;rcases List.mem_cons.mp (I.stkSub b Jt) with z|z
   ·exact I.cne y b dF z
   ·obtain⟨_,o',h4,_⟩:=I.ok.funs.mem z
    exact absurd (Heap.lt_size h4) (Nat.not_lt.mpr Kl)
 have zc:List.lookup c [(c,ocell)]=some ocell:=by simp
 have Hz:∀x c1,List.lookup x [(y,c)]=some c1→x=y∧c1=c:=fun x c1 e=>by
  rw [List.lookup_cons] at e;cases hx:x==y with
  |true=>rw [hx] at e;cases e;exact⟨beq_iff_eq.mp hx,rfl⟩
  |false=>rw [hx] at e;cases e
 have zb:∀b o,List.lookup b [(c,ocell)]=some o→X.base.get? b=none:=fun b o e=>by
  rw [List.lookup_cons] at e;cases vy:b==c with
  |true=>
   have:=beq_iff_eq.mp vy;subst this
   cases y':X.base.get? b with
   |none=>rfl
   |some o'=>exact absurd (Heap.lt_size (I.ok.bs b o' y').1) (Nat.not_lt.mpr Kl)
  |false=>rw [vy] at e;cases e
 have MF:ez X.K (upd H d (.frz o (.dT au))) q (.int n::r):=ez.far hq (fun b hb=>aa hb) hd
 have L1:upd H d (.frz o (.dT au)) b=some (.tup (k.map kV)):=by rw [aa (ei Gu hd (fun z=>nomatch z))];exact Gu
 have wd:wZ H (withZ [(c,ocell)] (upd H d (.frz o (.dT au)))) d o au:=by
  have nz:∀b u,H b=some u→List.lookup b [(c,ocell)]=none:=fun b u e=>by
   rw [List.lookup_cons];cases vy:b==c with
   |true=>have:=beq_iff_eq.mp vy;subst this;rw [zK] at e;cases e
   |false=>rfl
  refine⟨by rw [af (nz d _ hd),ag],hd,fun b u e hb=>by rw [af (nz b u e),aa hb];exact e,fun b u e n=>?_⟩
  cases hz:List.lookup b [(c,ocell)] with
  |some ob=>rw [aW hz] at e;cases e;exact⟨_,rfl⟩
  |none=>
   rw [af hz] at e;have L6:b≠d:=fun z=>by rw [z,hd] at n;cases n
   rw [aa L6,n] at e;cases e
 refine wpAny_call (codeAny_mono (lam_run (k:=kk) (E:=fun _ _ _=>False) (Q:=fun v H'=>v=.int n∧H'=withZ [(c,ocell)] (upd H d (.frz o (.dT au)))) (Z:=[(c,ocell)]) (ws:=[.ref d]) (vs:=[.ref b]) (us:=[.ref b])
  (t:=EF (Fp X.K) (A9 (xM 1) (xM 0)) (tC (.int 0))) L.sc hr.in1 If.env0.in1 zA zb ?fo ?co rf BC (hb _) (.cons rfl .nil) rfl rfl ?Eu ?inj ?cz ?cells ?ht ?hq) fun rr s' Ia=>?_)
 case fo=>
  have z:upd H d (.frz o (.dT au)) f=H f:=aa MP
  exact(If.hok f _ (z.trans hf)).1
 case co=>
  have z:upd H d (.frz o (.dT au)) c'=some (.frz oc bA):=by rw [aa IS];exact gq
  exact(If.hok c' _ z).1
 case Eu=>intro y' vx;exact⟨c,by rw [List.mem_singleton.mp vx];simp⟩
 case inj=>intro x y' c1 e1 e2;rw [(Hz x c1 e1).1,(Hz y' c1 e2).1]
 case cz=>intro x c1 e;obtain⟨rfl,rfl⟩:=Hz x c1 e;exact⟨ocell,_,zc,g2⟩
 case cells=>
  intro i y' c1 e1 e2 v e3;obtain⟨rfl,rfl⟩:=Hz y' c1 e2
  cases i with
  |zero=>cases e3;exact⟨.ref d,rfl,ocell,g1,g2⟩
  |succ i=>cases e3
 case ht=>
  refine Bi xH (zF ?_ (d7 (i:=1) rfl (.inr (.inr (L.sc.fre y (by simp)))) L.d3 L.d4) (d7 (i:=0) rfl (.inl (L.sc.par p (by simp))) L.d1 L.d2) fun _ _=>rfl) xT fun _ _=>rfl
  have:=hr.un
  show X.A.units+1+3+1<cLine
  omega
 case hq=>
  refine⟨_,rfl,_,rfl,d,.ref q,rfl,?_,?_⟩
  ·exact .inr ⟨au,k,b,.inr ⟨o,ag⟩,rfl,L1,hv.symm⟩
  ·exact⟨q,.int n::r,0,.int n,rfl,rfl,MF,by simp [oj,Br],fun _=>⟨rfl,rfl⟩⟩
 ·cases rr with
  |error e=>
   obtain⟨a,C,t,vs,H',B,e1,F⟩:=Ia
   exact(F.ends).elim
  |ok fl=>
   cases fl with
   |ret u=>
    obtain⟨v,H',os,bare,un,hok,rv,rfl,rfl⟩:=Ia
    obtain⟨t,rfl⟩:=rv
    obtain⟨u1,k1,at1⟩:=wd.back un (zA.hok If.hok) hok
    obtain⟨hh,g,dr,tk,os'⟩:=s'
    obtain rfl:os'=s.os:=os
    exact⟨⟨t,rfl⟩,I.call (h':=hh) (g':=g) (d':=dr) (t':=tk) (ch:=[]) u1 k1 bare (fun b z=>absurd z (by simp)),at1⟩
   |_=>exact Ia.elim
end
end L2
namespace L2
open PySem PySem.Spec PyProof.Rows
structure KM(X:Cx)(σ:St)(H:Hp)(kk:Nat)(d f:Addr)(au:List (List Key×V))(cf:Nat→Int):Prop where
 room:df (kk+1) X.A
 dt:H d=some (.dT au)
 lam:∃(p y:Str) (params:Arguments) (body:Expr) (scope:Scope) (qual:Str) (c c':Addr) (oc:Obj) (cF:Array Value) (ct:Tok) (pm eR:Value) (iy:Nat),qi p y params body scope∧X.env.cells.lookup y=some c∧X.s₀.heap.objs.size≤c∧H f=some (.frz (PySem.W.kla_obj "<lambda>" qual params body scope [(y,c)] pm c' eR) bA)∧
  H c'=some (.frz oc bA)∧oc.data=.fields cF∧cF[1]?=some (.str qual ct)∧(∀u,bindArgs (PySem.W.kla_fn "<lambda>" qual params body scope [(y,c)] pm (.ref c') eR) ⟨[u],[]⟩=pure ([p].zip [u]))∧
  X.N[iy]?=some y∧σ[iy]?=some (some (V.ref d))∧X.env.scope.names.lookup y=some .cell
 cost:∀(i:Nat) k v,au[i]?=some (k,v)→∃q r,v=V.ref q∧ez X.K H q (.int (cf i)::r)
theorem zv{au:List (List Key×V)}:∀{i:Nat} {k:List Key} {v:V},(au.map (·.1)).Nodup→au[i]?=some (k,v)→f6 au k=some v:=by
 induction au with
 |nil=>intro i k v _ h;simp at h
 |cons x r ih=>
  intro i k v nd h;rw [List.map_cons,List.nodup_cons] at nd;cases i with
  |zero=>simp at h;subst h;exact fJ rfl
  |succ i=>
   simp at h;rw [fk fun e=>nd.1 (e▸List.mem_map.mpr ⟨(k,v),List.mem_of_getElem? h,rfl⟩)]
   exact ih nd.2 h
section
variable{X:Cx}{pins:List (Addr×Obj)}{σ:St}{H:Hp}{s:Shared}{d f it S:Addr}{o:Obj}{es:Array DictEntry}{ep:Nat}{au:List (List Key×V)}{kk:Nat}{cf:Nat→Int}{R:Result→Shared→Prop}
theorem rY(I:Inv X pins σ H s)(e:H d=some (.dT au)):(d==sysModules)=false∧(au.map (·.1)).Nodup∧∃o es ep,s.heap.get? d=some o∧o.ExactDict∧o.data=.dict es ep∧es.size=au.length∧∀(i:Nat) (h:i<es.size),∃b k v,es[i].key=.ref b∧au[i]?=some (k,v)∧H b=some (.tup (k.map kV)):=by
 obtain⟨o,J⟩:=I.freeze e
 obtain⟨lo,h0,hx,es,ep,h3,hl,hk⟩:=fq J ag
 obtain⟨z,_,xs,rel,_,_,_,_,_,_,_,h5⟩:=(show bM X.prog X.w H s.heap d (.dT au) from I.hok d _ e)
 refine⟨lo,?_,o,es,ep,h0,hx,h3,hl,fun i hi=>?_⟩
 ·have keys:∀{l:List (List Key×V)} {m:List (List Key×Addr×Value)},KT H l m→l.map (·.1)=m.map (·.1):=by
   intro l m r
   induction r with
   |nil=>rfl
   |cons h t ih=>rw [List.map_cons,List.map_cons,h.1,ih]
  rw [keys (KT.keeps (H':=H) rel fun _ _ z=>z)];exact h5
 ·obtain⟨b,k,v,e1,e2,e3⟩:=hk i hi
  refine⟨b,k,v,e1,e2,?_⟩
  by_cases hb:b=d
  ·rw [hb,ag] at e3;cases e3
  ·rw [aa hb] at e3;exact e3
theorem du.pin{b:Addr}{ob:Obj}(h:du X pins H b)(e:s.heap.get? b=some ob)(n:∀v,ob.data≠.cell v):s.heap.get? b=some ob∧H b=none∧b≠X.env.locals∧b∉X.fs∧∀v,ob.data≠.cell v:=⟨e,h.1,h.2.1,h.2.2.1,n⟩
theorem xn(M:KM X σ H kk d f au cf)(I:Inv X pins σ H s)(fi:du X pins H it)(fS:du X pins H S)(ho:s.heap.get? d=some o){oi oS:Obj}(hi:s.heap.get? it=some oi)(ci:∀v,oi.data≠.cell v)(hS:s.heap.get? S=some oS)(cS:∀v,oS.data≠.cell v)
 (nd:(au.map (·.1)).Nodup) {i:Nat} {k:List Key} {v:V} {b:Addr} (hk:au[i]?=some (k,v)) (hb:H b=some (.tup (k.map kV))) {E:Value→Shared→Prop} {Q:Value→Shared→Prop}
 (h:∀t s',Inv X pins σ H s'→s'.heap.get? d=some o→s'.heap.get? it=some oi→s'.heap.get? S=some oS→Q (.int (cf i) t) s'):wpAny (model X.prog X.w) X.A.in1 (call (.ref f) [.ref b]) Q E s:=by
 obtain⟨p,y,params,body,scope,qual,c,c',oc,cF,ct,pm,eR,iy,L,l1,l2,l3,l4,l5,l6,l7,l8,l9,l10⟩:=M.lam
 obtain⟨q,r,rfl,hq⟩:=M.cost i k v hk
 have I1:Inv X ((it,oi)::(S,oS)::pins) σ H s:=by
  refine I.pins_of fun p hp=>?_
  rcases List.mem_cons.mp hp with rfl|hp
  ·exact fi.pin hi ci
  ·rcases List.mem_cons.mp hp with rfl|hp
   ·exact fS.pin hS cS
   ·exact I.pin p (List.mem_append_right _ hp)
 have cell:s.heap.IsCell c (some (.ref d)):=by
  obtain⟨m,_,hloc⟩:=I.loc
  obtain⟨u,ru,lk⟩:=hloc iy y (.ref d) l8 l9 (.inr (.inl l10))
  cases(show u=Value.ref d from ru);rcases lk with⟨z,_⟩|⟨_,c2,hc2,z⟩
  ·have z2:X.env.scope.names.lookup y=some .local:=z
   rw [l10] at z2;cases z2
  ·rw [l1] at hc2;cases hc2;exact z
 refine wpAny_mono (xQ (kk:=kk) rfl L M.room I1 M.dt ho l1 l2 cell l3 l4 l5 l6 l7 hb (zv nd hk) hq) (fun u s' hu=>?_) fun _ _ z=>z
 obtain⟨⟨t,rfl⟩,J,hd⟩:=hu
 refine h t s' (J.pins_of fun p hp=>J.pin p (List.mem_append_right _ (.tail _ (.tail _ hp)))) hd (J.pin (it,oi) (List.mem_append_right _ (.head _))).1 (J.pin (S,oS) (List.mem_append_right _ (.tail _ (.head _)))).1
theorem tG{h:Heap}{c:Nat}{xs ys:Array Value}(e:h.get? S=some (seqObj "list" xs c)):∃c',(h.update S (Obj.mapSeq fun _=>ys)).get? S=some (seqObj "list" ys c'):=⟨_,get?_update_seq e fun _=>ys⟩
theorem jr{xs:Array Value}{c:Nat}:∀v,(seqObj "list" xs c).data≠.cell v:=fun v z=>nomatch z
theorem w6(M:KM X σ H kk d f au cf)(hh:X.A.handled=none)(hd:o.data=.dict es ep)(hl:es.size=au.length)(vw:∀(i:Nat) (h:i<es.size),∃b k v,es[i].key=.ref b∧au[i]?=some (k,v)∧H b=some (.tup (k.map kV)))(nd:(au.map (·.1)).Nodup)
 (fi:du X pins H it) (fS:du X pins H S) (nS:S≠it) (hR:∀(i:Nat) (h:i<es.size) s',(∀j,j<es.size→cf i≤cf j∧(j<i→cf i<cf j))→Inv X pins σ H s'→R (.ok (.ret es[i].key)) s'):
 ∀(r j i:Nat) (s:Shared) (t:Tok) (c:Nat) (hi:i<es.size),es.size-(j+1)=r→j+1≤es.size→Inv X pins σ H s→s.heap.get? d=some o→s.heap.IsKeyIter it d (j+1) es.size ep→s.heap.get? S=some (seqObj "list" #[es[i].key,.int (cf i) t] c)→i≤j→(∀j',j'≤j→cf i≤cf j'∧(j'<i→cf i<cf j'))→
  codeAny (model X.prog X.w) X.A (.builtin "min.loop" ⟨[.ref it,.ref f,.ref S],[]⟩) R s:=by
 have name:(toString "min"++toString ".loop":String)="min.loop":=by decide
 have JC:S≠d:=fun z=>by have:=fS.1;rw [z,M.dt] at this;cases this
 have Jr:it≠d:=fun z=>by have:=fi.1;rw [z,M.dt] at this;cases this
 intro r
 induction r with
 |zero=>
  intro j i s t c hi hr hj I ho st hS H9 best;refine codeAny_builtin PySem.F.entry_min_loop ?_;rw [Around.under_plainId PySem.F.plain_min_loop _];show wpAny _ X.A.in1 (seqItems? (.ref S)>>=fun z=>_) _ _ _
  refine wpAny_bind (wpAny_seqItems hS rfl ?_);show wpAny _ X.A.in1 (tryCatch (pyNext (.ref it)) _>>=fun z=>_) _ _ _
  refine wpAny_bind (wpAny_tryCatch (qQ hh st ho hd (by omega) fun h' eb=>?_))
  have rj:=eb S _ nS hS
  have I1:=I.turned (h':=h') (t':=s.toks) (fun b o hb e=>eb b o hb e) fi.1 fi.2.1 fi.2.2.2.1 fi.2.2.2.2.1 fi.2.2.2.2.2
  show wpAny _ X.A.in1 (updateSeq S (fun _=>#[])>>=fun z=>_) _ _ _
  refine wpAny_bind (wpAny_updateSeq rj rfl (wpAny_bind (wpAny_letGo (wpAny_pure ?_))));have s1:=Heap.SameBut.update h' S (Obj.mapSeq fun _=>(#[]:Array Value))
  exact hR i hi _ (fun j' JU=>best j' (by omega)) (I1.turned (t':=s.toks) (fun b o hb e=>(s1.2 b hb).trans e) fS.1 fS.2.1 fS.2.2.2.1 fS.2.2.2.2.1 fS.2.2.2.2.2)
 |succ r ih=>
  intro j i s t c hi hr hj I ho st hS H9 best;have bW:j+1<es.size:=by omega
  refine codeAny_builtin PySem.F.entry_min_loop ?_;rw [Around.under_plainId PySem.F.plain_min_loop _];show wpAny _ X.A.in1 (seqItems? (.ref S)>>=fun z=>_) _ _ _
  refine wpAny_bind (wpAny_seqItems hS rfl ?_);show wpAny _ X.A.in1 (tryCatch (pyNext (.ref it)) _>>=fun z=>_) _ _ _
  refine wpAny_bind (wpAny_tryCatch (jk st ho hd bW fun h' iw sb=>?_));have rj:=(sb.2 S nS).trans hS
  have iA:=(sb.2 d (Ne.symm Jr)).trans ho
  have I1:=I.turned (h':=h') (t':=s.toks) (fun b o hb e=>(sb.2 b hb).trans e) fi.1 fi.2.1 fi.2.2.2.1 fi.2.2.2.2.1 fi.2.2.2.2.2
  obtain⟨oi,gi,gc,gd⟩:=id iw
  obtain⟨b,k,v,e1,e2,e3⟩:=vw (j+1) bW
  rw [e1];show wpAny _ X.A.in1 (tryCatch (holding [Value.ref b] (call (.ref f) [Value.ref b])) _>>=fun z=>_) _ _ _
  refine wpAny_bind (wpAny_tryCatch (wpAny_holding (xn M I1 fi fS iA gi (fun v z=>by rw [gd] at z;cases z) rj jr nd e2 e3 fun t2 s2 I2 Dj E9 Er=>?_)))
  have Io:s2.heap.IsKeyIter it d (j+1+1) es.size ep:=⟨oi,E9,gc,gd⟩
  show wpAny _ X.A.in1 (tryCatch (holding [Value.ref b,.int (cf (j+1)) t2] (richCompare .Lt (.int (cf (j+1)) t2) (.int (cf i) t)>>=fun z=>_)) _>>=fun z=>_) _ _ _
  refine wpAny_bind (wpAny_tryCatch (wpAny_holding (wpAny_bind (CmpOf.ints_lt (prog:=X.prog) (w:=X.w) (A:=X.A.in1) (P:=fun i v=>∃t,v=.int (cf i) t) cf (fun i v h=>h) (j+1) i _ _ _ _ _ ⟨t2,rfl⟩ ⟨t,rfl⟩ ?_))))
  refine wpAny_bind (wpAny_holding (wpAny_truthy_bool (wpAny_bind (wpAny_letGo (wpAny_pure ?_)))))
  by_cases gL:cf (j+1)<cf i
  ·obtain⟨c2,hc2⟩:=tG (ys:=#[Value.ref b,.int (cf (j+1)) t2]) Er
   have s1:=Heap.SameBut.update s2.heap S (Obj.mapSeq fun _=>#[Value.ref b,.int (cf (j+1)) t2])
   simp only [gL,decide_true,if_true];refine wpAny_bind (wpAny_updateSeq Er rfl (wpAny_bind (wpAny_letGo ?_)));rw [name];rw [←e1] at hc2 s1⊢;refine wpAny_pure ⟨plainId_quiet PySem.F.plain_min_loop _,ih (j+1) (j+1) _ t2 c2 bW (by omega) bW (I2.turned (t':=s2.toks) (fun b o hb e=>(s1.2 b hb).trans e) fS.1 fS.2.1 fS.2.2.2.1 fS.2.2.2.2.1 fS.2.2.2.2.2) ?_ ?_ ?_ (Nat.le_refl _) fun j' JU=>?_⟩
   ·exact(s1.2 d (Ne.symm JC)).trans Dj
   ·exact⟨oi,(s1.2 it (Ne.symm nS)).trans E9,gc,gd⟩
   ·exact hc2
   ·by_cases e:j'=j+1
    ·subst e;exact⟨by omega,fun _=>by omega⟩
    ·have:=best j' (by omega)
     exact⟨by omega,fun _=>by omega⟩
  ·simp only [gL,decide_false,Bool.false_eq_true,if_false];refine wpAny_bind (wpAny_letGo ?_);rw [name];refine wpAny_pure ⟨plainId_quiet PySem.F.plain_min_loop _,ih (j+1) i _ t c hi (by omega) bW I2 Dj Io Er (by omega) fun j' JU=>?_⟩
   by_cases e:j'=j+1
   ·subst e;exact⟨by omega,fun _=>by omega⟩
   ·exact best j' (by omega)
theorem uf(M:KM X σ H kk d f au cf)(fc:0<au.length)(I:Inv X pins σ H s){Q:VK}
 (q:∀i k v b,au[i]?=some (k,v)→H b=some (.tup (k.map kV))→(∀j,j<au.length→cf i≤cf j∧(j<i→cf i<cf j))→Q (.ref b) H):wpAny (model X.prog X.w) X.A (call (.builtin "min") [.ref d] [(Str.ofString "key",.ref f)]) (EP X pins σ Q) X.xe s:=by
 have name:(toString "min"++toString ".loop":String)="min.loop":=by decide
 have hh:X.A.handled=none:=M.room.hd
 obtain⟨lo,nd,o,es,ep,ho,hx,hd,hl,vw⟩:=rY I M.dt
 have fin:∀(i:Nat) (h:i<es.size) s',(∀j,j<es.size→cf i≤cf j∧(j<i→cf i<cf j))→Inv X pins σ H s'→EP X pins σ Q es[i].key s':=fun i h s' b J=>by
  obtain⟨a,k,v,e1,e2,e3⟩:=vw i h
  rw [e1];exact⟨.ref a,H,J,rfl,q i k v a e2 e3 fun j hj=>b j (by omega)⟩
 refine kmk_tree PySem.F.kind_min PySem.F.plain_min PySem.F.entry_min (kmk_min_key _ _) ?_;show wpAny _ X.A.in1 (Builtin.Builtins.bindParams "min" ["key","default"] 0 ⟨[],[(Str.ofString "key",.ref f)]⟩>>=fun z=>_) _ _ s
 refine wpAny_bind (wpAny_of_eq (show Builtin.Builtins.bindParams "min" ["key","default"] 0 ⟨[],[(Str.ofString "key",.ref f)]⟩=pure [some (.ref f),none] from rfl) (wpAny_bind (wpAny_pure ?_)));refine wpAny_bind (nt lo ho hx hd (wpAny_bind (wpAny_newList ?_ (Nat.zero_le _))));rw [name];generalize hit:s.heap.objs.size=it
 generalize hSS:(s.heap.push {cls:=.type "dict_keyiterator",data:=.fields #[.ref d,.int 0 0,.int es.size 0,.int ep 0]}).objs.size=S
 have eS:S=it+1:=by rw [←hSS,←hit];exact size_push' ..
 have nS:S≠it:=by omega
 have hH:s.heap.objs.size≤S:=by omega
 have fi:du X pins H it:=by rw [←hit];exact I.fpOk (Nat.le_refl _) (I.hok.fresh (Nat.le_refl _))
 have fS:du X pins H S:=I.fpOk hH (I.hok.fresh hH)
 have keep:∀b ob,s.heap.get? b=some ob→((s.heap.push {cls:=.type "dict_keyiterator",data:=.fields #[.ref d,.int 0 0,.int es.size 0,.int ep 0]}).push (seqObj "list" #[] 0)).get? b=some ob:=fun b ob e=>Heap.get?_push_of_some _ (Heap.get?_push_of_some _ e)
 have I1:=I.kept (t':=s.toks) keep
 have gI:((s.heap.push {cls:=.type "dict_keyiterator",data:=.fields #[.ref d,.int 0 0,.int es.size 0,.int ep 0]}).push (seqObj "list" #[] 0)).get? it=some {cls:=.type "dict_keyiterator",data:=.fields #[.ref d,.int 0 0,.int es.size 0,.int ep 0]}:=by
  rw [←hit];exact Heap.get?_push_of_some _ (Heap.get?_push_size _ rfl)
 have gS:((s.heap.push {cls:=.type "dict_keyiterator",data:=.fields #[.ref d,.int 0 0,.int es.size 0,.int ep 0]}).push (seqObj "list" #[] 0)).get? S=some (seqObj "list" #[] 0):=by
  rw [←hSS];exact Heap.get?_push_size _ rfl
 have JC:S≠d:=fun z=>by have:=fS.1;rw [z,M.dt] at this;cases this
 have Jr:it≠d:=fun z=>by have:=fi.1;rw [z,M.dt] at this;cases this
 refine wpAny_pure ⟨plainId_quiet PySem.F.plain_min_loop _,codeAny_builtin PySem.F.entry_min_loop ?_⟩;rw [Around.under_plainId PySem.F.plain_min_loop _];show wpAny _ X.A.in1 (seqItems? (.ref S)>>=fun z=>_) _ _ _
 refine wpAny_bind (wpAny_seqItems gS rfl ?_);show wpAny _ X.A.in1 (tryCatch (pyNext (.ref it)) _>>=fun z=>_) _ _ _
 have h0:0<es.size:=by omega
 refine wpAny_bind (wpAny_tryCatch (jk (i:=0) ⟨_,gI,rfl,rfl⟩ (keep _ _ ho) hd h0 fun h' iw sb=>?_))
 have rj:=(sb.2 S nS).trans gS
 have iA:=(sb.2 d (Ne.symm Jr)).trans (keep _ _ ho)
 have I2:=I1.turned (h':=h') (t':=s.toks) (fun b o hb e=>(sb.2 b hb).trans e) fi.1 fi.2.1 fi.2.2.2.1 fi.2.2.2.2.1 fi.2.2.2.2.2
 obtain⟨oi,gi,gc,gd⟩:=id iw
 obtain⟨b,k,v,e1,e2,e3⟩:=vw 0 h0
 rw [e1];show wpAny _ X.A.in1 (tryCatch (holding [Value.ref b] (call (.ref f) [Value.ref b])) _>>=fun z=>_) _ _ _
 refine wpAny_bind (wpAny_tryCatch (wpAny_holding (xn M I2 fi fS iA gi (fun v z=>by rw [gd] at z;cases z) rj jr nd e2 e3 fun t2 s2 I3 Dj E9 Er=>?_)))
 obtain⟨c2,hc2⟩:=tG (ys:=#[Value.ref b,.int (cf 0) t2]) Er
 have s1:=Heap.SameBut.update s2.heap S (Obj.mapSeq fun _=>#[Value.ref b,.int (cf 0) t2])
 show wpAny _ X.A.in1 (updateSeq S (fun _=>#[Value.ref b,.int (cf 0) t2])>>=fun z=>_) _ _ _
 refine wpAny_bind (wpAny_updateSeq Er rfl ?_);rw [name];rw [←e1] at hc2 s1⊢;refine wpAny_pure ⟨plainId_quiet PySem.F.plain_min_loop _,w6 M hh hd hl vw nd fi fS nS fin _ 0 0 _ t2 c2 h0 rfl h0 (I3.turned (t':=s2.toks) (fun b o hb e=>(s1.2 b hb).trans e) fS.1 fS.2.1 fS.2.2.2.1 fS.2.2.2.2.1 fS.2.2.2.2.2) ((s1.2 d (Ne.symm JC)).trans Dj) ⟨oi,(s1.2 it (Ne.symm nS)).trans E9,gc,gd⟩ hc2 (Nat.le_refl _) fun j' JU=>?_⟩
 have e:j'=0:=by omega
 subst e;exact⟨by omega,fun h=>absurd h (Nat.lt_irrefl _)⟩
end
end L2
namespace L2
open PySem PySem.Spec PyProof.Rows PySem.W
noncomputable def pg{α:Type}(dflt:α)(l:List α)(nss:List (List Int)):List α:=if l.length<2 then l else(qk l.length fun i j=>HT.lexLt (nss.getD i []) (nss.getD j [])).map fun i=>l.getD i dflt
section
variable{prog:Program}{w:World}{A:Around}{E:Value→Shared→Prop}{s:Shared}{a:Addr}{vs:List Value}{nss:List (List Int)}
theorem yi{n:Nat}{P:PySem.Fin→Shared→Prop}(ho:s.heap.get? a=some (seqObj "list" vs.toArray n))(h2:vs.length<2)
 (h:∀h' c,(∀b o,b≠a→s.heap.get? b=some o→h'.get? b=some o)→h'.get? a=some (seqObj "list" vs.toArray c)→P (.done (.ret .none)) {s with heap:=h'}):wpAny (model prog w) A (Builtin.«list.sort» ⟨[.ref a],[]⟩) P E s:=by
 have s1:=Heap.SameBut.update s.heap a (Obj.mapSeq fun _=>(#[]:Array Value))
 obtain⟨e1,ho1⟩:=kO (ys:=(#[]:Array Value)) ho
 generalize hH:(((s.heap.update a (Obj.mapSeq fun _=>(#[]:Array Value))).push (seqObj "tuple" vs.toArray 0)).push (seqObj "list" #[] 0))=H1
 have k1:∀b o,b≠a→s.heap.get? b=some o→H1.get? b=some o:=fun b o hb e=>by rw [←hH];exact Heap.get?_push_of_some _ (Heap.get?_push_of_some _ ((s1.2 b hb).trans e))
 have a1:H1.get? a=some (seqObj "list" #[] e1):=by rw [←hH];exact Heap.get?_push_of_some _ (Heap.get?_push_of_some _ ho1)
 rw [list_sort_plain];refine wpAny_bind (listItems_at ho rfl (wpAny_bind (listUpdate_at ho rfl ?_ (by rw [List.size_toArray,sizeLine_eq];omega) (Nat.zero_le _))));refine wpAny_bind (seqEpoch_at ho1 rfl (wpAny_bind (wpAny_newTuple ?_ (by show vs.length≤_;rw [sizeLine_eq];omega))));refine wpAny_bind (wpAny_newList ?_ (Nat.zero_le _));refine wpAny_holding ?_;show wpAny (model prog w) A _ P E {s with heap:=((s.heap.update a (Obj.mapSeq fun _=>(#[]:Array Value))).push (seqObj "tuple" vs.toArray 0)).push (seqObj "list" #[] 0)}
 rw [hH];dsimp only;have Bq:vs.toArray.size<2:=by rw [List.size_toArray];omega
 rw [if_pos Bq,if_pos Bq];refine wpAny_bind (wpAny_pure (wpAny_bind ?_));show wpAny (model prog w) A (pure ((),SortSt.mk' general' (vs.toArray.zip vs.toArray) #[] 7 none)) _ E _;refine wpAny_pure ?_;dsimp only;have D0:(arrOf (SortSt.mk' general' (vs.toArray.zip vs.toArray) #[] 7 none)).map (·.2)=vs.toArray:=by
  show(vs.toArray.zip vs.toArray).map (·.2)=vs.toArray
  apply Array.toList_inj.mp
  simp only [Array.toList_map,Array.toList_zip];exact List.map_snd_zip (Nat.le_refl _)
 rw [D0];have s2:=Heap.SameBut.update H1 a (Obj.mapSeq fun _=>vs.toArray)
 obtain⟨c2,hc2⟩:=kO (ys:=vs.toArray) a1
 refine wpAny_bind (seqEpoch_at a1 rfl (wpAny_bind (listUpdate_at a1 rfl ?_ (Nat.zero_le _) (by rw [List.size_toArray,sizeLine_eq];omega))));simp only [bne_self_eq_false,Bool.false_eq_true,if_false];exact wpAny_pure (h _ c2 (fun b o hb e=>(s2.2 b hb).trans (k1 b o hb e)) hc2)
theorem xD{n:Nat}{P:PySem.Fin→Shared→Prop}(ho:s.heap.get? a=some (seqObj "list" vs.toArray n))(yl:vs.length<64)(t:fx s.heap vs nss)
 (h:∀h' c,(∀b o,b≠a→s.heap.get? b=some o→h'.get? b=some o)→h'.get? a=some (seqObj "list" (pg Value.none vs nss).toArray c)→P (.done (.ret .none)) {s with heap:=h'}):wpAny (model prog w) A (Builtin.«list.sort» ⟨[.ref a],[]⟩) P E s:=by
 by_cases h2:vs.length<2
 ·exact yi ho h2 fun h' c k e=>h h' c k (by unfold pg;rw [if_pos h2];exact e)
 ·exact uv ho (by omega) yl t fun h' c k e=>h h' c k (by unfold pg;rw [if_neg h2];exact e)
theorem vE{d:Addr}{o:Obj}{es:Array DictEntry}{ep:Nat}(lo:(d==sysModules)=false)(hx:o.ExactDict)(hd:o.data=.dict es ep):KdlSrc prog w "dict" d d es.size (fun i v=>∃h:i<es.size,v=es[i].key) (fun h=>h.get? d=some o) where
 type:=fun s e=>⟨o,e,hx.1⟩
 there:=fun h e=>⟨Heap.lt_size e,Heap.lt_size e⟩
 keep:=fun h h' e k=>k d (.inl rfl) o e
 notList:=by decide
 notTuple:=by decide
 hint:=fun A E s Q e q=>kdl_hint_dict ⟨o,e,hx.1⟩ q
 iter:=fun A s hh e=>⟨_,fun i h=>h.IsKeyIter s.heap.objs.size d i es.size ep∧h.get? d=some o,(fun E Q q=>nt lo e hx hd q),{
  sub:=fun b hb=>by simp at hb;simp [hb]
  frame:=fun _ _ _ st hk=>⟨st.1.at fun o e=>hk _ (by simp) o e,hk d (by simp) o st.2⟩
  item:=fun i s' Q E hi st hQ=>jk st.1 st.2 hd hi fun h' iw sb=>hQ _ h' s'.toks ⟨hi,rfl⟩ ⟨iw,(sb.2 d (Nat.ne_of_lt (Heap.lt_size e))).trans st.2⟩ fun b o hb z=>(sb.2 b (fun y=>hb (by simp [y]))).trans z
  done:=fun s' Q E st hQ=>qQ hh st.1 st.2 hd (Nat.le_refl _) fun h' eb=>hQ h' s'.toks fun b o hb z=>eb b o (fun y=>hb (by simp [y])) z
  self:=fun _ _ _ _ st hQ=>wpAny_pyIter_keyiter st.1 hQ},⟨⟨_,Heap.get?_push_size _ rfl,rfl,rfl⟩,Heap.get?_push_of_some _ e⟩⟩
theorem oN{Q:List Value→Shared→Prop}{T:String}{r d:Addr}{n:Nat}{P:Nat→Value→Prop}{OK:Heap→Prop}(K:KdlSrc prog w T r d n P OK)(hh:A.handled=none)(hok:OK s.heap)(hn:n≤sizeLine)
 (hQ:∀h' tk (acc:Array Value),(∀b o,s.heap.get? b=some o→h'.get? b=some o)→ItemsOf P acc n→Q acc.toList {s with heap:=h',toks:=tk}):wpAny (model prog w) A (collect (.ref r)) Q E s:=by
 have hS:(s.heap.push (seqObj "list" #[] 0)).get? s.heap.objs.size=some {cls:=.type "list",data:=.seq #[] 0}:=Heap.get?_push_size _ rfl
 have bW:=K.there _ hok
 have main:codeAny (model prog w) A (.builtin "proto.collect" ⟨[.ref r],[]⟩) (fun res s'=>∃h' tk cA c',res=.ok (.ret (.ref s.heap.objs.size))∧s'={s with heap:=h',toks:=tk}∧(∀b o,s.heap.get? b=some o→h'.get? b=some o)∧h'.get? s.heap.objs.size=some {cls:=.type "list",dict:=none,data:=.seq cA c',slots:=#[]}∧ItemsOf P cA n) s:=by
  refine codeAny_builtin F.entry_proto_collect ?_;rw [Around.under_plainId F.plain_proto_collect _];show wpAny _ A.in1 (newList []>>=fun l=>again (.builtin "list.__iadd__" ⟨[l,.ref r],[]⟩)) _ _ s
  refine wpAny_bind (wpAny_newList (wpAny_pure ⟨plainId_quiet F.plain_list_iadd _,codeAny_builtin F.entry_list_iadd ?_⟩) (Nat.zero_le _));rw [Around.under_plainId F.plain_list_iadd _];exact kdl_extend (R:=fun res s'=>∃h' tk cA c',res=.ok (.ret (.ref s.heap.objs.size))∧s'={s with heap:=h',toks:=tk}∧(∀b o,s.heap.get? b=some o→h'.get? b=some o)∧h'.get? s.heap.objs.size=some {cls:=.type "list",dict:=none,data:=.seq cA c',slots:=#[]}∧ItemsOf P cA n)
   (s:={s with heap:=s.heap.push (seqObj "list" #[] 0)}) (A:=A) K hh (K.keep _ _ hok fun b _ o e=>Heap.get?_push_of_some _ e) _ (Nat.ne_of_gt bW.1) (Nat.ne_of_gt bW.2) (.ref s.heap.objs.size) 0 hS (fun h' tk cA c' hk rj jl=>⟨h',tk,cA,c',rfl,rfl,fun b o e=>hk b o (Nat.ne_of_lt (Heap.lt_size e)) (Heap.get?_push_of_some _ e),rj,jl⟩) hn
 unfold collect;refine wpAny_bind (wpAny_runValue (codeAny_mono main fun res s' hr=>?_));obtain⟨h',tk,cA,c',rfl,rfl,k1,k2,k3⟩:=hr
 show wpAny _ A (load s.heap.objs.size>>=fun z=>_) _ _ _
 exact wpAny_bind (wpAny_load k2 (wpAny_pure (hQ h' tk cA k1 k3)))
end
abbrev mR(K:PySem.W.Frag)(H:Hp)(vs:List V)(nss:List (List Int)):Prop:=Paired (fun v ns=>∃b,v=V.ref b∧ez K H b (ns.map V.int)∧ns≠[]) vs nss
section
variable{X:Cx}{pins:List (Addr×Obj)}{σ:St}{H:Hp}{s:Shared}{vs:List V}{us:List Value}{nss:List (List Int)}{A:Around}{E:Value→Shared→Prop}{Q:VK}
theorem zX(I:Inv X pins σ H s):∀{vs:List V} {us:List Value} {nss:List (List Int)},Vals vs us→mR X.K H vs nss→fx s.heap us nss:=by
 intro vs us nss r t
 induction t generalizing us with
 |nil=>cases r;exact .nil
 |cons h t ih=>
  obtain⟨b,rfl,hq,fc⟩:=h
  cases r with
  |cons r1 r2=>
   cases(show _=Value.ref b from r1);obtain⟨aq,rv,⟨o,g1,g2,n,g3⟩,_⟩:=I.tuple hq
   exact .cons ⟨b,o,aq.toArray,n,rfl,g1,g2,g3,by simpa using rv,fc⟩ (ih r2)
theorem xO(r:Vals vs us):Vals (pg V.non vs nss) (pg Value.none us nss):=by
 have hl:=r.length
 unfold pg;rw [hl];split
 ·exact r
 ·have go:∀l:List Nat,Vals (l.map fun i=>vs.getD i V.non) (l.map fun i=>us.getD i Value.none):=by
   intro l
   induction l with
   |nil=>exact .nil
   |cons i l ih=>
    refine .cons ?_ ih;dsimp only
    by_cases hi:i<vs.length
    ·obtain⟨u,hu,ru⟩:=r.get (List.getElem?_eq_getElem hi)
     have e1:vs.getD i V.non=vs[i]:=by simp [hi]
     have e2:us.getD i Value.none=u:=by simp [hu]
     rw [e1,e2];exact ru
    ·have e1:vs.getD i V.non=.non:=by simp [Nat.le_of_not_lt hi]
     have e2:us.getD i Value.none=.none:=by simp [Nat.le_of_not_lt (hl▸hi)]
     rw [e1,e2];exact rfl
  exact go _
theorem AV{α:Type}{d:α}{l:List α}:(pg d l nss).length=l.length:=by
 unfold pg;split
 ·rfl
 ·rename_i h;rw [List.length_map,(pZ (by omega) _).length_eq,List.length_range]
theorem kl(I:Inv X pins σ H s)(r:Vals vs us)(t:mR X.K H vs nss)(yl:vs.length<64)(q:∀p,H p=none→Q (.ref p) (upd H p (.lst (pg V.non vs nss)))):
 wpAny (model X.prog X.w) A (newList us>>=fun l=>holding [l] (call (.builtin "list.sort") [l] [])>>=fun _=>ret l) (fun fin s'=>∃v,fin=.done (.ret v)∧EP X pins σ Q v s') E s:=by
 have hl:=r.length
 refine wpAny_bind (wpAny_newList ?_ (by rw [sizeLine_eq];omega));have HE:(s.heap.push (seqObj "list" us.toArray 0)).get? s.heap.objs.size=some (seqObj "list" us.toArray 0):=Heap.get?_push_size _ rfl
 have kp:∀b o,s.heap.get? b=some o→(s.heap.push (seqObj "list" us.toArray 0)).get? b=some o:=fun b o e=>Heap.get?_push_of_some _ e
 refine wpAny_bind (wpAny_holding (wpAny_call_entry slot_list_sort ⟨_,HE,rfl⟩ entry_list_sort ?_ (args_list_sort _)));refine xD (s:={s with heap:=s.heap.push (seqObj "list" us.toArray 0)}) HE (by omega) ((zX I r t).keep fun b o e _=>kp b o e) fun h' c k e=>⟨_,rfl,wpAny_pure ⟨_,rfl,.ref s.heap.objs.size,upd H s.heap.objs.size (.lst (pg V.non vs nss)),?_,rfl,q _ (I.hok.fresh (Nat.le_refl _))⟩⟩
 exact I.laid (a:=s.heap.objs.size) (t':=s.toks) (fun b o z=>k b o (Nat.ne_of_lt (Heap.lt_size z)) (kp b o z)) (Nat.le_refl _) ⟨by rw [AV,sizeLine_eq];omega,_,c,xO r,e⟩
theorem nW:b9 X (.builtin "sorted") (fun xs H Q=>∃a vs nss,xs=[V.ref a]∧eh X.K H a vs∧mR X.K H vs nss∧vs.length<64∧∀p,H p=none→Q (.ref p) (upd H p (.lst (pg V.non vs nss)))):=by
 intro pins s σ H xs us Q I r h;obtain⟨a,vs,nss,rfl,hl,t,yl,q⟩:=h
 obtain⟨u,rfl,ru⟩:=vals1 r
 cases ru;obtain⟨aq,rv,p,hz⟩:=I.list hl
 refine Calls.call_function_entry kind_sorted plain_sorted entry_sorted (args_sorted1 _) ?_;unfold Builtin.«sorted»;refine wpAny_bind (m:=checkCount "sorted" 1 1 _) (wpAny_pure (wpAny_bind (collect_list p.isList ?_ (by have:=rv.length;rw [sizeLine_eq];omega))));have I1:=I.kept (t':=s.toks) (h':=(s.heap.push (seqObj "list" #[] 0)).update s.heap.objs.size (Obj.mapSeq (·++aq.toArray))) fun b o e=>by
  have bW:b<s.heap.objs.size:=Heap.lt_size e
  rw [Heap.get?_update_ne _ _ _ _ (Nat.ne_of_lt bW),Heap.get?_push_ne _ _ _ (Nat.ne_of_lt bW)];exact e
 exact kl I1 rv t yl q
theorem zJ{d:Addr}{au:List (List Key×V)}(I:Inv X pins σ H s)(e:Rd H d (.dT au)):(d==sysModules)=false∧∃o es ep,s.heap.get? d=some o∧o.ExactDict∧o.data=.dict es ep∧es.size=au.length∧∀(i:Nat) (h:i<es.size),∃b k v,es[i].key=.ref b∧au[i]?=some (k,v)∧H b=some (.tup (k.map kV)):=by
 rcases e with e|⟨o,e⟩
 ·obtain⟨h1,_,h2⟩:=rY I e
  exact⟨h1,h2⟩
 ·obtain⟨h1,h2,h3,h4⟩:=fq I e
  exact⟨h1,o,let⟨es,ep,r⟩:=h4;⟨es,ep,h2,h3,r⟩⟩
theorem nO(hc:X.calm=true):b9 X (.builtin "sorted") (fun xs H Q=>∃a au nss,xs=[V.ref a]∧Rd H a (.dT au)∧au.map (·.1)=nss.map (·.map .inl)∧(∀ns∈nss,ns≠[])∧au.length<64∧
 ∀p vs,H p=none→Paired (fun v ns=>∃b,v=V.ref b∧H b=some (.tup (ns.map V.int))) vs nss→Q (.ref p) (upd H p (.lst (pg V.non vs nss)))):=by
 intro pins s σ H xs us Q I r h;obtain⟨a,au,nss,rfl,hl,hk,fc,yl,q⟩:=h
 obtain⟨u,rfl,ru⟩:=vals1 r
 cases ru;obtain⟨lo,o,es,ep,h0,hx,h3,vo,vw⟩:=zJ I hl
 refine Calls.call_function_entry kind_sorted plain_sorted entry_sorted (args_sorted1 _) ?_;unfold Builtin.«sorted»;refine wpAny_bind (m:=checkCount "sorted" 1 1 _) (wpAny_pure (wpAny_bind (oN (vE lo hx h3) (show X.A.in1.handled=none from I.ok.hd hc) h0 (by rw [sizeLine_eq];omega) fun h' tk acc kp it=>?_)))
 have I1:=I.kept (t':=tk) (h':=h') kp
 have all:∃vs:List V,Vals vs acc.toList∧Paired (fun v ns=>∃b,v=V.ref b∧H b=some (.tup (ns.map V.int))) vs nss:=by
  have hn:nss.length=au.length:=by have:=congrArg List.length hk;simpa using this.symm
  have hs:acc.toList.length=nss.length:=by rw [Array.length_toList,it.1];omega
  have ev:∀(i:Nat) v ns,acc.toList[i]?=some v→nss[i]?=some ns→∃b,v=.ref b∧H b=some (.tup (ns.map V.int)):=fun i v ns e1 e2=>by
   obtain⟨hi,ev⟩:=it.2 i v (by rw [←Array.getElem?_toList];exact e1)
   obtain⟨b,k,x,g1,g2,g3⟩:=vw i hi
   refine⟨b,ev.trans g1,?_⟩;have Ej:k=ns.map .inl:=by
    have:=congrArg (fun l=>l[i]?) hk
    simp only [List.getElem?_map,g2,e2,Option.map_some] at this;exact Option.some.inj this
   rw [g3,Ej,List.map_map]
   rfl
  clear it vw hk fc q I1
  generalize acc.toList=us at hs ev
  clear yl hn
  induction nss generalizing us with
  |nil=>cases us with
   |nil=>exact⟨[],.nil,.nil⟩
   |cons u us=>simp at hs
  |cons ns nss ih=>
   cases us with
   |nil=>simp at hs
   |cons u us=>
    obtain⟨vs,h1,h2⟩:=ih us (by simpa using hs) fun i v ns e1 e2=>ev (i+1) v ns (by simpa using e1) (by simpa using e2)
    obtain⟨b,rfl,hb⟩:=ev 0 u ns rfl rfl
    exact⟨.ref b::vs,.cons rfl h1,.cons ⟨b,rfl,hb⟩ h2⟩
 obtain⟨vs,rv,pv⟩:=all
 have hlen:vs.length<64:=by have:=Paired.length pv;have h9:=congrArg List.length hk;simp at h9;omega
 refine kl I1 rv ?_ hlen fun p hp=>q p vs hp pv
 clear hlen rv hk yl q
 induction pv with
 |nil=>exact .nil
 |cons h t ih=>
  obtain⟨b,rfl,hb⟩:=h
  exact .cons ⟨b,rfl,.inl (.inl hb),fc _ (.head _)⟩ (ih fun ns hm=>fc ns (.tail _ hm))
end
end L2
namespace Ci
open PySem L2
inductive PV where
 |non|bl (b:Bool)|int (i:Int)|str (z:Str)
 |tup (xs:List PV)|lst (xs:List PV)
 |exc (c:Str)
 |dct (ks:List (List Int)) (vs:List PV)
 deriving Inhabited
structure Wd where
 K:PySem.W.Frag
 mg:Str→Option Value
 xs:List Str
 ts:List (Addr×Str):=[]
def LsR(K:PySem.W.Frag)(H:Hp)(a:Addr)(vs:List V):Prop:=
 Rd H a (.lst vs)∨∃(aq:Array Value) (n:Nat),K.lookup a=some {cls:=.type "list",data:=.seq aq n}∧aq.size≤sizeLine∧Vals vs aq.toList
def Eo(K:PySem.W.Frag)(G:Hp)(a:Addr)(vs:List V):Prop:=G a=some (.tup vs)∨ez K G a vs∧∃z,V.str z∈vs
theorem Eo.sq{K:PySem.W.Frag}{G:Hp}{a:Addr}{vs:List V}:Eo K G a vs→ez K G a vs
 |.inl h=>.inl (.inl h)
 |.inr h=>h.1
def kz(ks:List (List Int))(us:List V):List (List Key×V):=(ks.map fun k=>k.map Sum.inl).zip us
mutual
def Rep(W:Wd)(G:Hp):PV→V→Prop
 |.non,v=>v=.non
 |.bl b,v=>v=.bl b
 |.int i,v=>v=.int i
 |.str z,v=>v=.str z
 |.tup xs,v=>∃a vs,v=.ref a∧Eo W.K G a vs∧ae W G xs vs
 |.lst xs,v=>∃a vs,v=.ref a∧LsR W.K G a vs∧ae W G xs vs
 |.exc c,v=>∃a C,v=.ref a∧c∈W.xs∧W.mg c=some (.ref C)∧G a=some (F9 a C)
 |.dct ks vs,v=>∃a o us,v=.ref a∧ks.length=us.length∧G a=some (.frz o (.dT (kz ks us)))∧ae W G vs us
def ae(W:Wd)(G:Hp):List PV→List V→Prop
 |[],vs=>vs=[]
 |p::ps,vs=>∃v r,vs=v::r∧Rep W G p v∧ae W G ps r
end
theorem ay.tup{K:PySem.W.Frag}{H H':Hp}{a:Addr}{xs:List V}(e:ay H H')(h:ez K H a xs):ez K H' a xs:=by
 rcases h with(h|⟨o,h⟩)|h
 ·exact .inl (.inl (e _ _ h))
 ·exact .inl (.inr ⟨o,e _ _ h⟩)
 ·exact .inr h
theorem ay.tp{K:PySem.W.Frag}{H H':Hp}{a:Addr}{xs:List V}(e:ay H H')(h:Eo K H a xs):Eo K H' a xs:=h.elim (fun z=>.inl (e _ _ z)) fun z=>.inr ⟨ay.tup e z.1,z.2⟩
theorem ay.rd{H H':Hp}{a:Addr}{u:HO}(e:ay H H')(h:Rd H a u):Rd H' a u:=by
 rcases h with h|⟨o,h⟩
 ·exact .inl (e _ _ h)
 ·exact .inr ⟨o,e _ _ h⟩
theorem ay.ls{K:PySem.W.Frag}{H H':Hp}{a:Addr}{vs:List V}(e:ay H H')(h:LsR K H a vs):LsR K H' a vs:=h.elim (fun z=>.inl (ay.rd e z)) .inr
section
variable{W:Wd}{G G':Hp}
mutual
theorem Rep.same(s:ay G G'):∀(p:PV) {v:V},Rep W G p v→Rep W G' p v
 |.non,_,h=>by simpa only [Rep] using h
 |.bl b,_,h=>by simpa only [Rep] using h
 |.int i,_,h=>by simpa only [Rep] using h
 |.str z,_,h=>by simpa only [Rep] using h
 |.tup xs,_,h=>by
  simp only [Rep] at h⊢;obtain⟨a,vs,e,q,l⟩:=h
  exact⟨a,vs,e,ay.tp s q,ae.same s xs l⟩
 |.lst xs,_,h=>by
  simp only [Rep] at h⊢;obtain⟨a,vs,e,q,l⟩:=h
  exact⟨a,vs,e,ay.ls s q,ae.same s xs l⟩
 |.exc c,_,h=>by
  simp only [Rep] at h⊢;obtain⟨a,C,e,x,m,q⟩:=h
  exact⟨a,C,e,x,m,s _ _ q⟩
 |.dct ks vs,_,h=>by
  simp only [Rep] at h⊢;obtain⟨a,o,us,e,n,m,l⟩:=h
  exact⟨a,o,us,e,n,s _ _ m,ae.same s vs l⟩
theorem ae.same(s:ay G G'):∀(ps:List PV) {vs:List V},ae W G ps vs→ae W G' ps vs
 |[],_,h=>by simpa only [ae] using h
 |p::ps,_,h=>by
  simp only [ae] at h⊢;obtain⟨v,r,e,h1,h2⟩:=h
  exact⟨v,r,e,Rep.same s p h1,ae.same s ps h2⟩
end
theorem ae.paired:∀{ps:List PV} {vs:List V},ae W G ps vs→Paired (fun v p=>Rep W G p v) vs ps
 |[],_,h=>by simp only [ae] at h;subst h;exact .nil
 |p::ps,_,h=>by
  simp only [ae] at h;obtain⟨v,r,rfl,h1,h2⟩:=h
  exact .cons h1 (ae.paired h2)
theorem ae.length{ps:List PV}{vs:List V}(h:ae W G ps vs):vs.length=ps.length:=j1 h.paired
theorem ae.nil:ae W G [] []:=by simp only [ae]
theorem ae.cons{p:PV}{v:V}{ps:List PV}{vs:List V}(h:Rep W G p v)(t:ae W G ps vs):ae W G (p::ps) (v::vs):=by simp only [ae];exact⟨_,_,rfl,h,t⟩
theorem ae.uncons{p:PV}{ps:List PV}{vs:List V}(h:ae W G (p::ps) vs):∃v r,vs=v::r∧Rep W G p v∧ae W G ps r:=by simpa only [ae] using h
theorem ae.append:∀{ps qs:List PV} {vs us:List V},ae W G ps vs→ae W G qs us→ae W G (ps++qs) (vs++us)
 |[],_,_,_,h,k=>by simp only [ae] at h;subst h;exact k
 |p::ps,_,_,_,h,k=>by
  obtain⟨v,r,rfl,h1,h2⟩:=h.uncons
  exact .cons h1 (h2.append k)
theorem ae.get:∀{ps:List PV} {vs:List V} {i:Nat} {v:V},ae W G ps vs→vs[i]?=some v→∃p,ps[i]?=some p∧Rep W G p v:=fun h e=>lN h.paired e
theorem ae.getP:∀{ps:List PV} {vs:List V} {i:Nat} {p:PV},ae W G ps vs→ps[i]?=some p→∃v,vs[i]?=some v∧Rep W G p v
 |[],_,_,_,_,e=>by simp at e
 |p::ps,_,0,q,h,e=>by
  obtain⟨v,r,rfl,h1,h2⟩:=h.uncons
  simp at e;subst e;exact⟨v,rfl,h1⟩
 |p::ps,_,i+1,q,h,e=>by
  obtain⟨v,r,rfl,h1,h2⟩:=h.uncons
  obtain⟨u,e1,k⟩:=h2.getP (i:=i) (by simpa using e)
  exact⟨u,by simpa using e1,k⟩
theorem ae.drop:∀{ps:List PV} {vs:List V} (n:Nat),ae W G ps vs→ae W G (ps.drop n) (vs.drop n)
 |_,_,0,h=>by simpa using h
 |[],_,n+1,h=>by simp only [ae] at h;subst h;simp only [List.drop_nil];exact .nil
 |p::ps,_,n+1,h=>by
  obtain⟨v,r,rfl,h1,h2⟩:=h.uncons
  simpa using h2.drop n
theorem ae.take:∀{ps:List PV} {vs:List V} (n:Nat),ae W G ps vs→ae W G (ps.take n) (vs.take n)
 |_,_,0,h=>by simp only [List.take_zero];exact .nil
 |[],_,n+1,h=>by simp only [ae] at h;subst h;simp only [List.take_nil];exact .nil
 |p::ps,_,n+1,h=>by
  obtain⟨v,r,rfl,h1,h2⟩:=h.uncons
  simp only [List.take_succ_cons];exact .cons h1 (h2.take n)
end
def gj(H H':Hp):Prop:=∀b o,H b=some o→(∀ps,o≠.tbl ps)∧H' b=some o∨∃ps m,o=.tbl ps∧H' b=some (.tbl (ps++m))
theorem gj.refl(H:Hp):gj H H:=fun b o h=>by
 cases o with
 |tbl ps=>exact .inr ⟨ps,#[],rfl,by simpa using h⟩
 |_=>exact .inl ⟨(fun _ z=>nomatch z),h⟩
theorem gj.trans{H H1 H2:Hp}(a:gj H H1)(b:gj H1 H2):gj H H2:=fun c o h=>by
 rcases a c o h with⟨n,e⟩|⟨ps,m,rfl,e⟩
 ·rcases b c o e with y|⟨ps,m,rfl,e2⟩
  ·exact .inl y
  ·exact absurd rfl (n ps)
 ·rcases b c _ e with⟨n,_⟩|⟨om,m',e2,e3⟩
  ·exact absurd rfl (n _)
  ·cases e2;exact .inr ⟨ps,m++m',rfl,by rw [e3,Array.append_assoc]⟩
theorem gj.free{H H':Hp}(e:gj H H'){l:Addr}(h:H' l=Option.none):H l=Option.none:=by
 cases q:H l with
 |none=>rfl
 |some o=>
  rcases e l o q with⟨_,z⟩|⟨_,_,_,z⟩
  ·rw [h] at z;cases z
  ·rw [h] at z;cases z
theorem gj.at{H H':Hp}(e:gj H H'){b:Addr}{o:HO}(h:H b=some o)(n:∀ps,o≠.tbl ps):H' b=some o:=by
 rcases e b o h with⟨_,z⟩|⟨ps,_,rfl,_⟩
 ·exact z
 ·exact absurd rfl (n ps)
theorem gj.notup{H H':Hp}(e:gj H H'){b:Addr}(h:H b≠none)(n:∀vs,H b≠some (.tup vs)):∀vs,H' b≠some (.tup vs):=fun vs z=>by
 cases q:H b with
 |none=>exact h q
 |some o=>
  rcases e b o q with⟨_,y⟩|⟨_,_,_,y⟩
  ·rw [z] at y;cases y;exact n vs q
  ·rw [z] at y;cases y
theorem gj.of{H H':Hp}(e:ay H H'):gj H H':=fun b o h=>by
 cases o with
 |tbl ps=>exact .inr ⟨ps,#[],rfl,by simpa using e _ _ h⟩
 |_=>exact .inl ⟨(fun _ z=>nomatch z),e _ _ h⟩
theorem gj.tup{K:PySem.W.Frag}{H H':Hp}{a:Addr}{xs:List V}(e:gj H H')(h:ez K H a xs):ez K H' a xs:=by
 rcases h with(h|⟨o,h⟩)|h
 ·exact .inl (.inl (e.at h (fun _ z=>nomatch z)))
 ·exact .inl (.inr ⟨o,e.at h (fun _ z=>nomatch z)⟩)
 ·exact .inr h
theorem gj.ls{K:PySem.W.Frag}{H H':Hp}{a:Addr}{vs:List V}(e:gj H H')(h:LsR K H a vs):LsR K H' a vs:=by
 rcases h with(h|⟨o,h⟩)|h
 ·exact .inl (.inl (e.at h (fun _ z=>nomatch z)))
 ·exact .inl (.inr ⟨o,e.at h (fun _ z=>nomatch z)⟩)
 ·exact .inr h
def cb(W:Wd)(G H:Hp):Prop:=∀P q,(P,q)∈W.ts→G P=none∧∃ps,H P=some (.tbl ps)∧TriplesOk ps.toList∧
 ∀pos cv,codeAmong pos ps.toList=some cv→∃c' oc cF t,cv=.ref c'∧G c'=some (.frz oc bA)∧oc.data=.fields cF∧cF[1]?=some (.str q t)
theorem cb.same{W:Wd}{G G' H H':Hp}(t:cb W G H)(g:ay G G')(own:∀a,H a≠none→(∀vs,H a≠some (.tup vs))→G a=none→G' a=none)(h:∀P ps,H P=some (.tbl ps)→H' P=some (.tbl ps)):cb W G' H':=fun P q m=>by
 obtain⟨n,ps,e,tr,al⟩:=t P q m
 refine⟨own P (by rw [e];exact fun z=>nomatch z) (by rw [e];exact fun _ z=>nomatch z) n,ps,h P ps e,tr,fun pos cv y=>?_⟩
 obtain⟨c',oc,cF,t,e1,e2,e3,e4⟩:=al pos cv y
 exact⟨c',oc,cF,t,e1,g _ _ e2,e3,e4⟩
structure aE(W:Wd)(G H G' H':Hp):Prop where
 g:ay G G'
 h:gj H H'
 sub:ay G' H'
 own:∀a,H a≠none→(∀vs,H a≠some (.tup vs))→G a=none→G' a=none
 tab:cb W G H→cb W G' H'
section
variable{W:Wd}
theorem aE.refl{G H:Hp}(s:ay G H):aE W G H G H:=⟨ay.refl _,gj.refl _,s,fun _ _ _ h=>h,id⟩
theorem aE.trans{G H G1 H1 G2 H2:Hp}(a:aE W G H G1 H1)(b:aE W G1 H1 G2 H2):aE W G H G2 H2:=
 ⟨a.g.trans b.g,a.h.trans b.h,b.sub,fun x hx ht hg=>b.own x (fun z=>hx (a.h.free z)) (a.h.notup hx ht) (a.own x hx ht hg),fun t=>b.tab (a.tab t)⟩
theorem mJ{H:Hp}{p:Addr}{o:HO}(h:∀ps,H p≠some (.tbl ps))(P:Addr)(ps:Array Value)(e:H P=some (.tbl ps)):upd H p o P=some (.tbl ps):=by
 rw [aa (fun z=>by subst z;exact h ps e)];exact e
theorem aE.new{G H:Hp}{p:Addr}{o:HO}(s:ay G H)(h:H p=none):aE W G H (upd G p o) (upd H p o) where
 g:=bh (s.free h)
 h:=.of (bh h)
 sub:=fun b u e=>by
  by_cases hb:b=p
  ·subst hb;rw [ag] at e⊢;exact e
  ·rw [aa hb] at e⊢;exact s _ _ e
 own:=fun a ha _ hg=>by
  have:a≠p:=fun z=>by subst z;exact ha h
  rw [aa this];exact hg
 tab:=fun t=>t.same (bh (s.free h)) (fun a ha _ hg=>by
  have:a≠p:=fun z=>by subst z;exact ha h
  rw [aa this];exact hg) (mJ (fun ps z=>by rw [h] at z;cases z))
theorem aE.adopt{G H:Hp}{b:Addr}{vs:List V}(s:ay G H)(h:H b=some (.tup vs)):aE W G H (upd G b (.tup vs)) H:=by
 have sm:ay G (upd G b (.tup vs)):=fun c u e=>by
  by_cases hc:c=b
  ·subst hc;rw [ag];have:=s _ _ e;rw [h] at this;exact this
  ·rw [aa hc];exact e
 have ow:∀a,H a≠none→(∀vs,H a≠some (.tup vs))→G a=none→upd G b (.tup vs) a=none:=fun a _ n e=>by
  have:a≠b:=fun z=>by subst z;exact n vs h
  rw [aa this];exact e
 exact⟨sm,gj.refl _,fun c u e=>by
  by_cases hc:c=b
  ·subst hc;rw [ag] at e;cases e;exact h
  ·rw [aa hc] at e;exact s _ _ e,ow,fun t=>t.same sm ow fun _ _ e=>e⟩
theorem aE.mine{G H:Hp}{p:Addr}{o:HO}(s:ay G H)(h:H p=none):aE W G H G (upd H p o):=
 ⟨ay.refl _,.of (bh h),s.trans (bh h),fun _ _ _ hg=>hg,fun t=>t.same (ay.refl _) (fun _ _ _ h=>h) (mJ (fun ps z=>by rw [h] at z;cases z))⟩
end
def aZ(scope:Scope):List Str:=((scope.names.filter fun p=>p.2==.free).map (·.1)).reverse
def okN(x:Str):Bool:=!(x=="__debug__")&&!(x=="__classdict__")&&!(x=="__name__")
def gy(x:Str):Bool:=x.cps.toList.contains 64
def mW:Arguments→Option (List Str)
 |⟨[],[],none,[],[],none,[]⟩=>some []
 |⟨[],[a],none,[],[],none,[]⟩=>some [a.arg]
 |_=>none
def dY:List Expr→List (Option Str)→Bool
 |[],[]=>true
 |.Name x _::r,some y::t=>x==y&&okN x&&dY r t
 |_,_=>false
noncomputable def HI(ps:List Str)(scope:Scope):Bool:=
 scope.kind==.function&&!scope.isCoroutine&&!scope.isGenerator&&decide ((ps++aZ scope).Nodup)&&(scope.names.all fun y=>decide (y.2≠.cell))&&(ps.all fun x=>decide (scope.names.lookup x=some .local))&&((aZ scope).all fun x=>decide (scope.names.lookup x=some .free))
noncomputable def wA(g:Str)(idx:List Nat)(params:Arguments)(body:Expr)(scope:Scope):Bool:=match mW params,body with
 |some ps,.Call (.Name g' _) (a::as) [] _=>decide (idx.head?=some ps.length)&&g==g'&&scope.names.lookup g==some .globalImplicit&&okN g&&!gy g&&dY (a::as) (idx.tail.map fun i=>(ps++aZ scope)[i]?)&&HI ps scope
 |_,_=>false
structure Kf(W:Wd)(G:Hp)(g:Str)(idx:List Nat)(cy:List PV)(f c':Addr)(oc:Obj)(cF:Array Value)(t:Tok)(eR pm:Value)(params:Arguments)(body:Expr)(scope:Scope)(qual:Str)(cl:List (Str×Addr))(Z:List (Addr×Obj))(ws:List V):Prop where
 lg:wA g idx params body scope=true
 fo:G f=some (.frz (PySem.W.kla_obj "<lambda>" qual params body scope cl pm c' eR) bA)
 co:G c'=some (.frz oc bA)
 cd:oc.data=.fields cF
 cn:cF[1]?=some (.str qual t)
 fz:Z.lookup f=none
 cz:Z.lookup c'=none
 inj:∀x y c,cl.lookup x=some c→cl.lookup y=some c→x=y
 has:∀y∈aZ scope,∃c,cl.lookup y=some c
 cells:∀x c,cl.lookup x=some c→∃o v,Z.lookup c=some o∧o.data=.cell v
 zs:∀b o,Z.lookup b=some o→G b=some (.frz o bA)
 zc:∀b o,Z.lookup b=some o→∃v,o.data=.cell v
 vals:∀(i:Nat) y c,(aZ scope)[i]?=some y→cl.lookup y=some c→∀v,ws[i]?=some v→∃u o,RelV v u∧Z.lookup c=some o∧o.data=.cell (some u)
 len:ws.length=(aZ scope).length
 rep:ae W (aV Z G) cy ws
def nQ(W:Wd)(G:Hp)(g:Str)(idx:List Nat)(cy:List PV)(v:V):Prop:=∃f c' oc cF t eR pm params body scope qual cl Z ws,v=.ref f∧Kf W G g idx cy f c' oc cF t eR pm params body scope qual cl Z ws
theorem lJ{Z:List (Addr×Obj)}{G G':Hp}(s:ay G G'):ay (aV Z G) (aV Z G'):=fun b u e=>by
 obtain⟨q,e1⟩:=dD e
 rw [aw q];exact s _ _ e1
theorem nQ.same{W:Wd}{G G':Hp}{g:Str}{idx:List Nat}{cy:List PV}{v:V}(s:ay G G')(h:nQ W G g idx cy v):nQ W G' g idx cy v:=by
 obtain⟨f,c',oc,cF,t,eR,pm,params,body,scope,qual,cl,Z,ws,e,d⟩:=h
 exact⟨f,c',oc,cF,t,eR,pm,params,body,scope,qual,cl,Z,ws,e,⟨d.lg,s _ _ d.fo,s _ _ d.co,d.cd,d.cn,d.fz,d.cz,d.inj,d.has,d.cells,fun b o q=>s _ _ (d.zs b o q),d.zc,d.vals,d.len,ae.same (lJ s) cy d.rep⟩⟩
inductive Slot where
 |no|val (p:PV)|own (p:PV)|fn (g:Str) (idx:List Nat) (cy:List PV)
 deriving Inhabited
abbrev Sl:=List Slot
def Own(W:Wd)(H0 G H:Hp):PV→V→Prop
 |.lst xs,v=>∃a vs,v=.ref a∧H a=some (.lst vs)∧G a=none∧H0 a=none∧ae W G xs vs
 |.dct ks ps,v=>∃a us,v=.ref a∧ks.length=us.length∧H a=some (.dT (kz ks us))∧G a=none∧H0 a=none∧ae W G ps us
 |_,_=>False
def Top(W:Wd)(H0 G H:Hp)(p:PV)(v:V):Prop:=Rep W G p v∨Own W H0 G H p v
def SlR(W:Wd)(H0 G H:Hp):Slot→Option V→Prop
 |.no,_=>True
 |.val p,o=>∃v,o=some v∧Rep W G p v
 |.own p,o=>∃v,o=some v∧Own W H0 G H p v
 |.fn g idx cy,o=>∃v,o=some v∧nQ W G g idx cy v
structure SR(W:Wd)(H0:Hp)(env:Sl)(σ:St)(G H:Hp):Prop where
 len:env.length=σ.length
 sub:ay G H
 base:gj H0 H
 slot:∀(i:Nat) (s:Slot),env[i]?=some s→∃o,σ[i]?=some o∧SlR W H0 G H s o
 apart:∀(i j:Nat) (p q:PV) (a:Addr),env[i]?=some (.own p)→env[j]?=some (.own q)→σ[i]?=some (some (.ref a))→σ[j]?=some (some (.ref a))→i=j
 tab:cb W G H
 tab0:cb W G H0
section
variable{W:Wd}{H0 G H G' H':Hp}{env:Sl}{σ:St}
theorem Own.grow(g:aE W G H G' H'):∀{p:PV} {v:V},Own W H0 G H p v→Own W H0 G' H' p v
 |.lst xs,_,h=>by
  obtain⟨a,vs,e,h1,h2,h3,l⟩:=h
  exact⟨a,vs,e,g.h.at h1 (fun _ z=>nomatch z),g.own a (by rw [h1];exact fun z=>by cases z) (by rw [h1];exact fun _ z=>by cases z) h2,h3,ae.same g.g xs l⟩
 |.dct ks ps,_,h=>by
  obtain⟨a,vs,e,n,h1,h2,h3,l⟩:=h
  exact⟨a,vs,e,n,g.h.at h1 (fun _ z=>nomatch z),g.own a (by rw [h1];exact fun z=>by cases z) (by rw [h1];exact fun _ z=>by cases z) h2,h3,ae.same g.g ps l⟩
 |.non,_,h=>h|.bl _,_,h=>h|.int _,_,h=>h|.str _,_,h=>h|.tup _,_,h=>h|.exc _,_,h=>h
theorem SlR.grow(g:aE W G H G' H'):∀{s:Slot} {o:Option V},SlR W H0 G H s o→SlR W H0 G' H' s o
 |.no,_,_=>trivial
 |.val p,_,h=>by obtain⟨v,e,r⟩:=h;exact⟨v,e,Rep.same g.g p r⟩
 |.own p,_,h=>by obtain⟨v,e,r⟩:=h;exact⟨v,e,r.grow g⟩
 |.fn _ _ _,_,h=>by obtain⟨v,e,r⟩:=h;exact⟨v,e,r.same g.g⟩
theorem SR.grow(r:SR W H0 env σ G H)(g:aE W G H G' H'):SR W H0 env σ G' H':=
 ⟨r.len,g.sub,r.base.trans g.h,fun i s e=>by obtain⟨o,h1,h2⟩:=r.slot i s e;exact⟨o,h1,h2.grow g⟩,r.apart,g.tab r.tab,r.tab0.same g.g (fun a h1 h3 h2=>g.own a (fun z=>h1 (r.base.free z)) (r.base.notup h1 h3) h2) fun _ _ h=>h⟩
theorem Top.grow{p:PV}{v:V}(g:aE W G H G' H')(h:Top W H0 G H p v):Top W H0 G' H' p v:=h.elim (fun z=>.inl (Rep.same g.g p z)) fun z=>.inr (z.grow g)
theorem Top.lst{xs:List PV}{v:V}(s:ay G H)(h:Top W H0 G H (.lst xs) v):∃a vs,v=.ref a∧LsR W.K H a vs∧ae W G xs vs:=by
 rcases h with h|h
 ·simp only [Rep] at h;obtain⟨a,vs,e,q,l⟩:=h
  exact⟨a,vs,e,ay.ls s q,l⟩
 ·obtain⟨a,vs,e,h1,_,_,l⟩:=h
  exact⟨a,vs,e,.inl (.inl h1),l⟩
theorem Top.tup{xs:List PV}{v:V}(s:ay G H)(h:Top W H0 G H (.tup xs) v):∃a vs,v=.ref a∧ez W.K H a vs∧ae W G xs vs:=by
 rcases h with h|h
 ·simp only [Rep] at h;obtain⟨a,vs,e,q,l⟩:=h
  exact⟨a,vs,e,ay.tup s q.sq,l⟩
 ·exact h.elim
theorem Top.tupI{xs:List PV}{v:V}{ns:List Int}(s:ay G H)(hx:xs=ns.map .int)(h:Top W H0 G H (.tup xs) v):∃a,v=.ref a∧G a=some (.tup (ns.map V.int)):=by
 rcases h with h|h
 ·simp only [Rep] at h;obtain⟨a,vs,e,q,l⟩:=h
  have ev:vs=ns.map V.int:=by
   subst hx
   clear q e
   induction ns generalizing vs with
   |nil=>simp only [List.map_nil,ae] at l;exact l
   |cons n ns ih=>
    obtain⟨u,r,rfl,h1,h2⟩:=l.uncons
    simp only [Rep] at h1;rw [h1,ih r h2]
    rfl
  subst ev;rcases q with q|⟨_,z,hz⟩
  ·exact⟨a,e,q⟩
  ·obtain⟨n,_,hn⟩:=List.mem_map.mp hz
   cases hn
 ·exact h.elim
theorem Top.dct{ks:List (List Int)}{ps:List PV}{v:V}(s:ay G H)(h:Top W H0 G H (.dct ks ps) v):∃a us,v=.ref a∧ks.length=us.length∧Rd H a (.dT (kz ks us))∧ae W G ps us:=by
 rcases h with h|h
 ·simp only [Rep] at h;obtain⟨a,o,us,e,n,q,l⟩:=h
  exact⟨a,us,e,n,.inr ⟨o,s _ _ q⟩,l⟩
 ·obtain⟨a,vs,e,n,q,_,_,l⟩:=h
  exact⟨a,vs,e,n,.inl q,l⟩
theorem Top.int{i:Int}{v:V}(h:Top W H0 G H (.int i) v):v=.int i:=h.elim (fun z=>by simpa only [Rep] using z) fun z=>z.elim
theorem Top.bl{b:Bool}{v:V}(h:Top W H0 G H (.bl b) v):v=.bl b:=h.elim (fun z=>by simpa only [Rep] using z) fun z=>z.elim
theorem Top.str{b:Str}{v:V}(h:Top W H0 G H (.str b) v):v=.str b:=h.elim (fun z=>by simpa only [Rep] using z) fun z=>z.elim
theorem Top.non{v:V}(h:Top W H0 G H .non v):v=.non:=h.elim (fun z=>by simpa only [Rep] using z) fun z=>z.elim
theorem Rep.i{i:Int}:Rep W G (.int i) (.int i):=by simp only [Rep]
theorem Rep.b{i:Bool}:Rep W G (.bl i) (.bl i):=by simp only [Rep]
theorem Rep.s{i:Str}:Rep W G (.str i) (.str i):=by simp only [Rep]
theorem Rep.n:Rep W G .non .non:=by simp only [Rep]
theorem Rep.l{a:Addr}{xs:List PV}{vs:List V}(h:LsR W.K G a vs)(l:ae W G xs vs):Rep W G (.lst xs) (.ref a):=by simp only [Rep];exact⟨a,vs,rfl,h,l⟩
theorem Rep.t{a:Addr}{xs:List PV}{vs:List V}(h:Eo W.K G a vs)(l:ae W G xs vs):Rep W G (.tup xs) (.ref a):=by simp only [Rep];exact⟨a,vs,rfl,h,l⟩
end
end Ci
namespace L2
open PySem PySem.Spec PyProof.Rows
section
variable{X:Cx}
end
end L2
namespace Ci
open PySem L2
inductive Res(α:Type) where
 |ok (a:α)|exc (c:Str)|bad
@[inline] def Res.bind{α β:Type}:Res α→(α→Res β)→Res β
 |.ok a,f=>f a
 |.exc c,_=>.exc c
 |.bad,_=>.bad
instance:Monad Res where
 pure:=.ok
 bind:=Res.bind
theorem Res.bind_ok{α β:Type}{r:Res α}{f:α→Res β}{b:β}(h:r.bind f=.ok b):∃a,r=.ok a∧f a=.ok b:=by
 cases r with
 |ok a=>exact⟨a,rfl,h⟩
 |exc c=>cases h
 |bad=>cases h
theorem Res.bind_exc{α β:Type}{r:Res α}{f:α→Res β}{c:Str}(h:r.bind f=.exc c):r=.exc c∨∃a,r=.ok a∧f a=.exc c:=by
 cases r with
 |ok a=>exact .inr ⟨a,rfl,h⟩
 |exc c'=>cases h;exact .inl rfl
 |bad=>cases h
def Res.of{α:Type}:Option α→Res α
 |some a=>.ok a
 |none=>.bad
def Res.well{α:Type}:Res α→Res α
 |.ok a=>.ok a
 |_=>.bad
abbrev fH:Nat:=1000000
def eqs(f:PV→PV→Bool):List PV→List PV→Bool
 |[],[]=>true
 |x::xs,y::ys=>f x y&&eqs f xs ys
 |_,_=>false
noncomputable def iU:Nat→PV→PV→Bool
 |_,.non,.non=>true
 |_,.bl a,.bl b=>a==b
 |_,.bl a,.int i=>(if a then 1 else 0)==i
 |_,.int i,.bl a=>i==(if a then 1 else 0)
 |_,.int i,.int j=>i==j
 |_,.str x,.str y=>x==y
 |n+1,.tup xs,.tup ys=>eqs (iU n) xs ys
 |n+1,.lst xs,.lst ys=>eqs (iU n) xs ys
 |_,_,_=>false
noncomputable def plain:Nat→PV→Bool
 |_,.non=>true
 |_,.bl _=>true
 |_,.int _=>true
 |_,.str _=>true
 |n+1,.tup xs=>xs.all (plain n)
 |n+1,.lst xs=>xs.all (plain n)
 |_,_=>false
abbrev DP:Nat:=9
noncomputable abbrev eqv:PV→PV→Bool:=iU DP
noncomputable abbrev rZ:PV→Bool:=plain DP
inductive Ez where|add|sub|mul|mod|fdiv
inductive xY where|eq|ne|lt|le|gt|ge|is|isn|in_|nin
def aO(i:Int):Bool:=decide (-(2^64)<i)&&decide (i<2^64)
noncomputable def binOp:Ez→PV→PV→Res PV
 |.add,.int i,.int j=>.ok (.int (i+j))
 |.add,.str x,.str y=>if x.length+y.length≤fH then .ok (.str (x++y)) else .bad
 |.add,.lst x,.lst y=>if x.length+y.length≤fH then .ok (.lst (x++y)) else .bad
 |.sub,.int i,.int j=>.ok (.int (i-j))
 |.mul,.int i,.int j=>if aO i||aO j then .ok (.int (i*j)) else .bad
 |.mul,.tup x,.int j=>if 1<j∧j<1000∧0<x.length∧x.length<1000 then .ok (.tup (List.replicate j.toNat x).flatten) else .bad
 |.mul,.str x,.int j=>if 1<j∧j<1000∧0<x.length∧x.length<1000 then .ok (.str (CV x j.toNat)) else .bad
 |.mod,.int i,.int j=>if 0<j then .ok (.int (i%j)) else .bad
 |.fdiv,.int i,.int j=>if 0<j∧j<1073741824 then .ok (.int (i/j)) else .bad
 |_,_,_=>.bad
def intsOf:List PV→Option (List Int)
 |[]=>some []
 |.int i::r=>(intsOf r).map (i::·)
 |_=>none
def av{α:Type}:List (List Int)→List α→List Int→Option α
 |k'::ks,v::vs,k=>if k'=k then some v else av ks vs k
 |_,_,_=>none
def cK(ks:List (List Int))(k:List Int):Bool:=ks.any fun k'=>decide (k'=k)
def bt(ks:List (List Int))(k:List Int):List (List Int):=if cK ks k then ks else ks++[k]
def bq{α:Type}(ks:List (List Int))(vs:List α)(k:List Int)(p:α):List α:=if cK ks k then List.zipWith (fun k' v=>if k'=k then p else v) ks vs else vs++[p]
def bL(ks:List (List Int))(k:List Int):List (List Int):=ks.filter fun k'=>decide (k'≠k)
def aR{α:Type}:List (List Int)→List α→List Int→List α
 |k'::ks,v::vs,k=>if k'=k then aR ks vs k else v::aR ks vs k
 |_,_,_=>[]
def ah(k:List Int):PV:=.tup (k.map .int)
def f9:PV→Option (List Int)
 |.tup xs=>intsOf xs
 |_=>none
def se:List PV→Option (List (List Int))
 |[]=>some []
 |x::r=>(f9 x).bind fun k=>(se r).map (k::·)
def zd:List PV→Option (List (List Int×PV))
 |[]=>some []
 |.tup [x,y]::r=>(f9 x).bind fun k=>(zd r).map ((k,y)::·)
 |_=>none
def gu{α:Type}:List (List Int×α)→List (List Int)→List α→List (List Int)×List α
 |[],ks,vs=>(ks,vs)
 |p::r,ks,vs=>gu r (bt ks p.1) (bq ks vs p.1 p.2)
noncomputable def tX(x:PV)(ys:List PV):Bool:=ys.any fun y=>eqv y x
noncomputable def iO(a b:PV):Res PV:=if rZ a&&rZ b then .ok (.bl (eqv a b)) else .bad
noncomputable def iN(a b:PV):Res PV:=if rZ a&&rZ b then .ok (.bl (!eqv a b)) else .bad
noncomputable def pL:PV→PV→Res PV
 |.int i,.int j=>.ok (.bl (decide (i<j)))
 |.tup xs,.tup ys=>(Res.of (intsOf xs)).bind fun ns=>(Res.of (intsOf ys)).bind fun ms=>.ok (.bl (HT.lexLt ns ms))
 |_,_=>.bad
def oJ:PV→PV→Res PV
 |.int i,.int j=>.ok (.bl (decide (i≤j)))
 |_,_=>.bad
def qV:PV→PV→Res PV
 |.int i,.int j=>.ok (.bl (decide (j<i)))
 |_,_=>.bad
def qj:PV→PV→Res PV
 |.int i,.int j=>.ok (.bl (decide (j≤i)))
 |_,_=>.bad
def xk:PV→Bool
 |.non=>true
 |_=>false
def rg:PV→PV→Res PV
 |a,.non=>.ok (.bl (xk a))
 |_,_=>.bad
def eZ:PV→PV→Res PV
 |a,.non=>.ok (.bl (!xk a))
 |.bl a,.bl b=>.ok (.bl (a !=b))
 |_,_=>.bad
noncomputable def qm:PV→PV→Res PV
 |a,.lst ys=>if rZ a&&ys.all rZ then .ok (.bl (tX a ys)) else .bad
 |a,.tup ys=>if rZ a&&ys.all rZ then .ok (.bl (tX a ys)) else .bad
 |_,_=>.bad
noncomputable def jZ:PV→PV→Res PV
 |a,.lst ys=>if rZ a&&ys.all rZ then .ok (.bl (!tX a ys)) else .bad
 |a,.dct ks _=>(Res.of (f9 a)).bind fun k=>.ok (.bl (!cK ks k))
 |_,_=>.bad
noncomputable def cO:xY→PV→PV→Res PV
 |.eq=>iO|.ne=>iN|.lt=>pL|.le=>oJ|.gt=>qV|.ge=>qj|.is=>rg|.isn=>eZ|.in_=>qm|.nin=>jZ
noncomputable def aQ:PV→PV→Res PV
 |.lst xs,.int i=>Res.of (oj xs i)
 |.tup xs,.int i=>Res.of (oj xs i)
 |.str z,.int i=>if z.length≤fH then(Res.of (oj z.cps.toList i)).bind fun c=>.ok (.str ⟨#[c]⟩) else .bad
 |.dct ks vs,y=>(Res.of (f9 y)).bind fun k=>Res.of (av ks vs k)
 |_,_=>.bad
def B8{α:Type}(xs:List α)(lo hi:Option Int):List α:=(xs.drop (HT.sIx xs.length 0 lo)).take (HT.sIx xs.length xs.length hi-HT.sIx xs.length 0 lo)
def ic:PV→Option Int→Option Int→Res PV
 |.lst xs,lo,hi=>.ok (.lst (B8 xs lo hi))
 |_,_,_=>.bad
inductive B where|len|abs|max2|int|str|all|sum|sorted|dict
def boolsOf:List PV→Option (List Bool)
 |[]=>some []
 |.bl b::r=>(boolsOf r).map (b::·)
 |_=>none
def chars(z:Str):List PV:=z.cps.toList.map fun c=>.str ⟨#[c]⟩
noncomputable def rk:List PV→Res PV
 |[.lst xs]=>.ok (.int xs.length)
 |[.tup xs]=>.ok (.int xs.length)
 |[.str z]=>if z.length≤fH then .ok (.int z.length) else .bad
 |[.dct ks _]=>.ok (.int ks.length)
 |_=>.bad
def xg:List PV→Res PV
 |[.int i]=>.ok (.int (if i<0 then -i else i))
 |_=>.bad
def wy:List PV→Res PV
 |[.int i,.int j]=>.ok (.int (if j>i then j else i))
 |_=>.bad
def vO:List PV→Res PV
 |[.str z]=>if z.length≤640 then(Res.of (PySem.intText? z)).bind fun n=>.ok (.int n) else .bad
 |_=>.bad
def wX:List PV→Res PV
 |[.int i]=>if i.natAbs.log2<1920 then .ok (.str (toString i)) else .bad
 |_=>.bad
def xX:List PV→Res PV
 |[.lst xs]=>(Res.of (boolsOf xs)).bind fun bs=>.ok (.bl (bs.all id))
 |_=>.bad
noncomputable def vG:List PV→Res PV
 |[.lst xs]=>(Res.of (intsOf xs)).bind fun ns=>if(ns.all fun n=>decide (-(2^32)<n)&&decide (n<2^32))&&decide (ns.length<fH) then .ok (.int ns.sum) else .bad
 |_=>.bad
noncomputable def g7:List PV→Res PV
 |[.lst xs]=>(Res.of (se xs)).bind fun nss=>if decide (xs.length<64)&&nss.all (fun k=>!k.isEmpty) then .ok (.lst (pg .non xs nss)) else .bad
 |[.dct ks _]=>if decide (ks.length<64)&&ks.all (fun k=>!k.isEmpty) then .ok (.lst (pg .non (ks.map ah) ks)) else .bad
 |_=>.bad
def oz:List PV→Res PV
 |[.lst xs]=>(Res.of (zd xs)).bind fun ps=>.ok (.dct (gu ps [] []).1 (gu ps [] []).2)
 |_=>.bad
noncomputable def cR:B→List PV→Res PV
 |.len=>rk|.abs=>xg|.max2=>wy|.int=>vO|.str=>wX|.all=>xX|.sum=>vG|.sorted=>g7|.dict=>oz
inductive Ty where|int|bool|tuple|list
def aG:Ty→PV→Bool
 |.int,.int _=>true
 |.int,.bl _=>true
 |.bool,.bl _=>true
 |.tuple,.tup _=>true
 |.list,.lst _=>true
 |_,_=>false
def aJ(t:Ty):PV→Res PV
 |.exc _=>.bad
 |.dct _ _=>.bad
 |p=>.ok (.bl (aG t p))
inductive Tg where
 |one (i:Nat)|two (i j:Nat)
mutual
inductive E where
 |var (i:Nat)|tmp (i:Nat)
 |cst (p:PV)
 |glob (g:Str) (p:PV)
 |call (f:Str) (as:Es)
 |callv (i:Nat) (as:Es)
 |callL (f:Str) (as:Es) (g:Str) (idx:List Nat) (aU:List Nat)
 |blt (b:B) (as:Es)
 |ty (t:Ty) (a:E)
 |bin (o:Ez) (a b:E)
 |cmp (o:xY) (a b:E)
 |ch (o1 o2:xY) (a b c:E)
 |not (a:E)
 |neg (a:E)
 |and (a b:E)|or (a b:E)
 |ite (c a b:E)
 |tup (as:Es)|lst (as:Es)
 |sub (a b:E)
 |slice (a:E) (lo hi:Oe)
 |comp (k:Nat) (aU:List Nat) (tg:Tg) (it:I) (elt:E)
 |compIf (k:Nat) (aU:List Nat) (tg:Tg) (it:I) (c elt:E)
 |lrev (a:E)
inductive Es where
 |nil|cons (e:E) (es:Es)
inductive Oe where
 |no|some (e:E)
inductive I where
 |seq (e:E)|rng (e:E)|rng2 (a b:E)|enum (e:E)|zip (a b:E)
end
mutual
inductive S where
 |expr (e:E)
 |set (i:Nat) (e:E)
 |own (i:Nat) (e:E)
 |frz (i:Nat)
 |app (i:Nat) (e:E)
 |extd (i:Nat) (e:E)
 |put (i:Nat) (k e:E)
 |pop (j i:Nat)
 |ret (e:E)
 |ite (c:E) (a b:Ss)
 |for_ (tg:Tg) (it:I) (b:Ss)
 |whl (c:E) (b:Ss)
 |raise (c:Str) (m:Str)
 |dnew (i:Nat)
 |dnew1 (i n:Nat) (b:Bool)
 |putPop (i j n:Nat)
 |minK (m i:Nat)
 |par (i j:Nat) (as:Es)
inductive Ss where
 |nil|cons (s:S) (ss:Ss)
end
def dW:List Int→Nat→Nat→Int→Nat
 |[],_,b,_=>b
 |c::cs,j,b,m=>if c<m then dW cs (j+1) j c else dW cs (j+1) b m
def xm:List Int→Option Nat
 |[]=>none
 |c::cs=>some (dW cs 1 0 c)
def gG:List PV→Option (List Int)
 |[]=>some []
 |.tup (.int c::_)::r=>(gG r).map (c::·)
 |_=>none
abbrev bj:=Str→List PV→Res PV
def gW:Option Slot→Res PV
 |some (.val p)=>.ok p
 |_=>.bad
def xF:Option Slot→Res PV
 |some (.val p)=>.ok p
 |some (.own p)=>.ok p
 |_=>.bad
def Tg.put:Tg→PV→Sl→Res Sl
 |.one i,p,env=>.ok (env.set i (.val p))
 |.two i j,.tup [a,b],env=>.ok ((env.set i (.val a)).set j (.val b))
 |_,_,_=>.bad
def iR(env:Sl):List Nat→Res (List PV)
 |[]=>.ok []
 |i::r=>(gW env[i]?).bind fun p=>(iR env r).bind fun ps=>.ok (p::ps)
def en(l:List PV):List Nat→Res (List PV)
 |[]=>.ok []
 |i::r=>(Res.of l[i]?).bind fun p=>(en l r).bind fun ps=>.ok (p::ps)
def aF(env:Sl)(aU:List Nat):Sl:=aU.map fun i=>env.getD i .no
def itemsOf:PV→Res (List PV)
 |.tup xs=>.ok xs
 |.str z=>.ok (chars z)
 |_=>.bad
def vf(e:E)(p:PV):Res (List PV):=match p,e with
 |.dct _ _,.tmp _=>.bad
 |.dct ks _,_=>.ok (ks.map ah)
 |.lst xs,_=>.ok xs
 |.tup xs,_=>.ok xs
 |_,_=>.bad
def mC(lo:Int)(n:Nat):List PV:=(List.range n).map fun i=>.int (lo+(i:Nat))
def bG(i:Int):Bool:=decide (-(2^62)≤i)&&decide (i<2^62)
def ja:List PV→List PV→List PV
 |x::xs,y::ys=>.tup [x,y]::ja xs ys
 |_,_=>[]
def gf(n:Nat):List PV→List PV
 |[]=>[]
 |x::xs=>.tup [.int (n:Nat),x]::gf (n+1) xs
def oc:Option PV→List PV→List PV
 |some y,ys=>y::ys
 |none,ys=>ys
def bB(f:PV→Res (Option PV)):List PV→Res (List PV)
 |[]=>.ok []
 |x::xs=>(f x).well.bind fun o=>(bB f xs).bind fun ys=>.ok (oc o ys)
def rb{α:Type}(p:PV)(f:Bool→Res α):Res α:=match p with
 |.bl b=>f b
 |_=>.bad
section
variable(F:bj)
mutual
noncomputable def aA:E→Sl→Res PV
 |.var i,env=>gW env[i]?
 |.tmp i,env=>xF env[i]?
 |.cst p,_=>.ok p
 |.glob _ p,_=>.ok p
 |.call f as,env=>(aB as env).bind fun ps=>F f ps
 |.callv i as,env=>match env[i]? with
  |some (.fn g idx cy)=>(aB as env).bind fun ps=>if idx.head?=some ps.length then(en (ps++cy) idx.tail).bind fun qs=>F g qs else .bad
  |_=>.bad
 |.callL f as _ _ aU,env=>(aB as env).bind fun ps=>(iR env aU).bind fun cs=>F f (ps++cs)
 |.blt b as,env=>(aB as env).bind fun ps=>cR b ps
 |.ty t a,env=>(aA a env).bind fun p=>aJ t p
 |.bin o a b,env=>(aA a env).bind fun x=>(aA b env).bind fun y=>binOp o x y
 |.cmp o a b,env=>(aA a env).bind fun x=>(aA b env).bind fun y=>cO o x y
 |.ch o1 o2 a b c,env=>(aA a env).bind fun x=>(aA b env).bind fun y=>(cO o1 x y).bind fun t=>rb t fun t=>
  if t then(aA c env).bind fun z=>cO o2 y z else .ok (.bl false)
 |.not a,env=>(aA a env).bind fun x=>rb x fun b=>.ok (.bl (!b))
 |.neg a,env=>(aA a env).bind fun x=>match x with|.int i=>.ok (.int (-i))|_=>.bad
 |.and a b,env=>(aA a env).bind fun x=>rb x fun t=>if t then aA b env else .ok (.bl false)
 |.or a b,env=>(aA a env).bind fun x=>rb x fun t=>if t then .ok (.bl true) else aA b env
 |.ite c a b,env=>(aA c env).bind fun x=>rb x fun t=>if t then aA a env else aA b env
 |.tup as,env=>(aB as env).bind fun ps=>.ok (.tup ps)
 |.lst as,env=>(aB as env).bind fun ps=>.ok (.lst ps)
 |.sub a b,env=>(aA a env).bind fun x=>(aA b env).bind fun y=>aQ x y
 |.slice a lo hi,env=>(aA a env).bind fun x=>(bU lo env).bind fun l=>(bU hi env).bind fun h=>ic x l h
 |.comp k aU tg it elt,env=>(bS it env).bind fun xs=>if xs.length<fH then(bB (fun x=>(tg.put x (List.replicate k .no++aF env aU)).bind fun aH=>(aA elt aH).bind fun y=>.ok (some y)) xs).bind fun ys=>.ok (.lst ys) else .bad
 |.compIf k aU tg it c elt,env=>(bS it env).bind fun xs=>if xs.length<fH then(bB (fun x=>(tg.put x (List.replicate k .no++aF env aU)).bind fun aH=>(aA c aH).bind fun t=>rb t fun t=>if t then(aA elt aH).bind fun y=>.ok (some y) else .ok none) xs).bind fun ys=>.ok (.lst ys) else .bad
 |.lrev a,env=>(aA a env).bind fun p=>match p with|.lst xs=>.ok (.lst xs.reverse)|_=>.bad
noncomputable def aB:Es→Sl→Res (List PV)
 |.nil,_=>.ok []
 |.cons e es,env=>(aA e env).bind fun p=>(aB es env).bind fun ps=>.ok (p::ps)
noncomputable def bU:Oe→Sl→Res (Option Int)
 |.no,_=>.ok none
 |.some e,env=>(aA e env).bind fun p=>match p with|.int i=>.ok (some i)|_=>.bad
noncomputable def bS:I→Sl→Res (List PV)
 |.seq e,env=>(aA e env).bind (vf e)
 |.rng e,env=>(aA e env).bind fun p=>match p with|.int j=>if bG j then .ok (mC 0 j.toNat) else .bad|_=>.bad
 |.rng2 a b,env=>(aA a env).bind fun p=>(aA b env).bind fun q=>match p,q with|.int i,.int j=>if bG i&&bG j then .ok (mC i (j-i).toNat) else .bad|_,_=>.bad
 |.enum e,env=>(aA e env).bind fun p=>(itemsOf p).bind fun xs=>.ok (gf 0 xs)
 |.zip a b,env=>(aA a env).bind fun p=>(aA b env).bind fun q=>match p,q with|.lst xs,.lst ys=>.ok (ja xs ys)|_,_=>.bad
end
end
inductive Fl where
 |nx (env:Sl)|bk (env:Sl)|ct (env:Sl)|rt (p:PV)
def Fl.seq(f:Fl)(k:Sl→Res Fl):Res Fl:=match f with
 |.nx env=>k env
 |f=>.ok f
noncomputable def forL(body:PV→Sl→Res Fl):List PV→Sl→Res Fl
 |[],env=>.ok (.nx env)
 |x::xs,env=>(body x env).bind fun f=>match f with
  |.nx aH=>forL body xs aH
  |.ct aH=>forL body xs aH
  |.bk aH=>.ok (.nx aH)
  |.rt p=>.ok (.rt p)
noncomputable def cG(c:Sl→Res PV)(body:Sl→Res Fl):Nat→Sl→Res Fl
 |0,_=>.bad
 |n+1,env=>(c env).bind fun t=>rb t fun t=>if t then(body env).bind fun f=>(match f with
  |.nx aH=>cG c body n aH
  |.ct aH=>cG c body n aH
  |.bk aH=>.ok (.nx aH)
  |.rt p=>.ok (.rt p)) else .ok (.nx env)
abbrev WN:Nat:=1000000
def nT:Slot→Slot
 |.own p=>.val p
 |s=>s
section
variable(F:bj)
mutual
noncomputable def bu:S→Sl→Res Fl
 |.expr e,env=>(aA F e env).bind fun _=>.ok (.nx env)
 |.set i e,env=>(aA F e env).bind fun p=>.ok (.nx (env.set i (.val p)))
 |.own i e,env=>(aA F e env).bind fun p=>.ok (.nx (env.set i (.own p)))
 |.frz i,env=>.ok (.nx (env.modify i nT))
 |.app i e,env=>match env[i]? with
  |some (.own (.lst xs))=>(aA F e env).bind fun p=>if xs.length<fH then .ok (.nx (env.set i (.own (.lst (xs++[p]))))) else .bad
  |_=>.bad
 |.extd i e,env=>match env[i]? with
  |some (.own (.lst xs))=>(aA F e env).bind fun p=>match p with
   |.lst ys=>if xs.length+ys.length≤fH then .ok (.nx (env.set i (.own (.lst (xs++ys))))) else .bad
   |_=>.bad
  |_=>.bad
 |.put i k e,env=>(aA F e env).bind fun p=>match env[i]? with
  |some (.own (.dct ks vs))=>(aA F k env).bind fun kp=>match f9 kp with
   |some kk=>if ks.length<fH then .ok (.nx (env.set i (.own (.dct (bt ks kk) (bq ks vs kk p))))) else .bad
   |none=>.bad
  |_=>.bad
 |.pop j i,env=>match env[i]? with
  |some (.own (.lst xs))=>(Res.of xs[xs.length-1]?).bind fun p=>.ok (.nx ((env.set i (.own (.lst xs.dropLast))).set j (.val p)))
  |_=>.bad
 |.ret e,env=>(aA F e env).bind fun p=>.ok (.rt p)
 |.ite c a b,env=>(aA F c env).bind fun p=>rb p fun t=>if t then ax a env else ax b env
 |.for_ tg it b,env=>(bS F it env).bind fun xs=>forL (fun x env=>(tg.put x env).bind fun aH=>ax b aH) xs env
 |.whl c b,env=>cG (aA F c) (ax b) WN env
 |.raise c _,_=>.exc c
 |.dnew i,env=>.ok (.nx (env.set i (.own (.dct [] []))))
 |.dnew1 i n b,env=>(gW env[n]?).bind fun kp=>(Res.of (f9 kp)).bind fun kk=>.ok (.nx (env.set i (.own (.dct [kk] [.bl b]))))
 |.putPop i j n,env=>match env[j]?,env[i]?,env[n]? with
  |some (.own (.dct ks vs)),some (.own (.dct ks2 vs2)),some (.val kp)=>match f9 kp with
   |some kk=>match av ks vs kk with
    |some p=>if ks2.length<fH∧i≠j then .ok (.nx ((env.set j (.own (.dct (bL ks kk) (aR ks vs kk)))).set i (.own (.dct (bt ks2 kk) (bq ks2 vs2 kk p))))) else .bad
    |none=>.bad
   |none=>.bad
  |_,_,_=>.bad
 |.minK m i,env=>match env[i]? with
  |some (.own (.dct ks vs))=>match gG vs with
   |some cs=>match(xm cs).bind fun x=>ks[x]? with
    |some k=>.ok (.nx (env.set m (.val (ah k))))
    |none=>.bad
   |none=>.bad
  |_=>.bad
 |.par i j as,env=>(aB F as env).bind fun ps=>match ps with
  |[p,q]=>.ok (.nx ((env.set i (.val p)).set j (.val q)))
  |_=>.bad
noncomputable def ax:Ss→Sl→Res Fl
 |.nil,env=>.ok (.nx env)
 |.cons s ss,env=>(bu s env).bind fun f=>f.seq (ax ss)
end
end
structure Def where
 N:List Str
 np:Nat
 body:Ss
 clo:Option (Str×List Nat):=none
noncomputable def ai(d:Def)(as:List PV):Sl:=match d.clo with
 |none=>as.map .val++List.replicate (d.N.length-as.length) .no
 |some q=>(as.take (d.np-1)).map .val++.fn q.1 q.2 (as.drop (d.np-1))::List.replicate (d.N.length-d.np) .no
noncomputable def aj(d:Def)(as:List PV):Bool:=match d.clo with
 |none=>as.length==d.np
 |some _=>decide (0<d.np)&&decide (d.np-1≤as.length)
noncomputable def ak(F:bj)(d:Def)(as:List PV):Res PV:=
 if aj d as then(ax F d.body (ai d as)).bind fun f=>match f with
  |.nx _=>.ok .non
  |.rt p=>.ok p
  |_=>.bad
 else .bad
noncomputable def den:List (Str×Def)→bj
 |[],_,_=>.bad
 |(n,d)::r,f,as=>if f==n then ak (den r) d as else den r f as
end Ci
namespace Ci
open PySem L2
abbrev ki(k:List Int):List Key:=k.map Sum.inl
theorem qw{a b:List Int}(h:ki a=ki b):a=b:=by
 induction a generalizing b with
 |nil=>cases b with|nil=>rfl|cons=>cases h
 |cons x a ih=>cases b with
  |nil=>cases h
  |cons y b=>simp only [ki,List.map_cons,List.cons.injEq,Sum.inl.injEq] at h;rw [h.1,ih h.2]
theorem nY(k:List Int):(ki k).map kV=k.map V.int:=by
 unfold ki;rw [List.map_map]
 rfl
theorem g9{k:List Int}{ks:List (List Int)}{u:V}{us:List V}:kz (k::ks) (u::us)=(ki k,u)::kz ks us:=rfl
theorem eN{ks:List (List Int)}{us:List V}(h:ks.length=us.length):(kz ks us).length=ks.length:=by
 unfold kz;rw [List.length_zip,List.length_map];omega
theorem m7{ks:List (List Int)}{us:List V}(h:ks.length=us.length):(kz ks us).map (·.1)=ks.map ki:=by
 unfold kz;exact List.map_fst_zip (by rw [List.length_map];omega)
theorem kG(k:List Int):∀(ks:List (List Int)) (us:List V),f6 (kz ks us) (ki k)=av ks us k
 |[],us=>by unfold av;rfl
 |a::ks,[]=>by unfold av;rfl
 |a::ks,u::us=>by
  rw [g9];unfold av
  by_cases h:a=k
  ·subst h;rw [if_pos rfl];exact fJ rfl
  ·rw [if_neg h,fk (fun z=>h (qw z))];exact kG k ks us
theorem nJ{α:Type}(k:List Int):∀(ks:List (List Int)) (us:List α),ks.length=us.length→(av ks us k).isSome=cK ks k
 |[],[],_=>rfl
 |a::ks,u::us,h=>by
  unfold av cK;rw [List.any_cons]
  by_cases e:a=k
  ·simp [e]
  ·rw [if_neg e];have:=nJ k ks us (by simpa using h)
   unfold cK at this;rw [this];simp [e]
 |[],_::_,h=>by simp at h
 |_::_,[],h=>by simp at h
theorem DH(k:List Int):∀(ks:List (List Int)) (us:List V),ks.length=us.length→((kz ks us).any fun kv=>decide (kv.1=ki k))=cK ks k:=fun ks us h=>by
 rw [j2,kG,nJ k ks us h]
theorem rC{ks:List (List Int)}{us:List V}(h:ks.length=us.length)(k:List Int)(v:V):putK (kz ks us) (ki k) v=kz (bt ks k) (bq ks us k v):=by
 unfold putK bt bq;rw [DH k ks us h];split
 ·have go:∀(ks:List (List Int)) (us:List V),(kz ks us).map (fun kv=>if kv.1=ki k then(kv.1,v) else kv)=kz ks (List.zipWith (fun k' u=>if k'=k then v else u) ks us):=by
   intro ks
   induction ks with
   |nil=>intro us;simp [kz]
   |cons a ks ih=>
    intro us;cases us with
    |nil=>simp [kz]
    |cons u us=>
     rw [g9,List.map_cons,List.zipWith_cons_cons,g9,ih]
     by_cases e:a=k
     ·simp [e]
     ·rw [if_neg (fun z=>e (qw z)),if_neg e]
  exact go ks us
 ·unfold kz;rw [List.map_append,List.zip_append (by rw [List.length_map];exact h)]
  rfl
theorem j4{α:Type}{ks:List (List Int)}{us:List α}(h:ks.length=us.length)(k:List Int)(v:α):(bt ks k).length=(bq ks us k v).length:=by
 unfold bt bq;split
 ·rw [List.length_zipWith];omega
 ·simp [h]
theorem rS(k:List Int):∀{ks:List (List Int)} {us:List V},ks.length=us.length→e8 (kz ks us) (ki k)=kz (bL ks k) (aR ks us k)
 |[],[],_=>rfl
 |a::ks,u::us,h=>by
  have ih:=rS k (ks:=ks) (us:=us) (by simpa using h)
  unfold bL aR;rw [g9,List.filter_cons]
  by_cases e:a=k
  ·subst e;rw [uA rfl,ih];simp [bL]
  ·rw [uW (fun z=>e (qw z)),ih,if_neg e,if_pos (by simpa using e),g9]
   rfl
 |[],_::_,h=>by simp at h
 |_::_,[],h=>by simp at h
theorem pY{α:Type}(k:List Int):∀{ks:List (List Int)} {us:List α},ks.length=us.length→(bL ks k).length=(aR ks us k).length
 |[],[],_=>by unfold aR;rfl
 |a::ks,u::us,h=>by
  have ih:=pY k (ks:=ks) (us:=us) (by simpa using h)
  unfold bL aR;rw [List.filter_cons]
  by_cases e:a=k
  ·subst e;rw [if_neg (by simp),if_pos rfl];exact ih
  ·rw [if_neg e,if_pos (by simpa using e),List.length_cons,List.length_cons];exact congrArg (·+1) ih
 |[],_::_,h=>by simp at h
 |_::_,[],h=>by simp at h
section
variable{W:Wd}{G:Hp}
theorem nZ{k:List Int}{p:PV}:∀{ks:List (List Int)} {ps:List PV} {us:List V},ae W G ps us→av ks ps k=some p→∃v,av ks us k=some v∧Rep W G p v
 |[],_,_,_,e=>by unfold av at e;cases e
 |a::ks,[],_,_,e=>by unfold av at e;cases e
 |a::ks,q::ps,_,l,e=>by
  obtain⟨v,r,rfl,h1,h2⟩:=l.uncons
  unfold av at e⊢
  by_cases h:a=k
  ·rw [if_pos h] at e⊢;cases e;exact⟨v,rfl,h1⟩
  ·rw [if_neg h] at e⊢;exact nZ h2 e
theorem vK{k:List Int}{p:PV}{v:V}(hp:Rep W G p v):∀{ks:List (List Int)} {ps:List PV} {us:List V},ae W G ps us→ae W G (List.zipWith (fun k' v=>if k'=k then p else v) ks ps) (List.zipWith (fun k' u=>if k'=k then v else u) ks us)
 |[],_,_,_=>by simp only [List.zipWith_nil_left];exact .nil
 |a::ks,[],_,l=>by simp only [ae] at l;subst l;simp only [List.zipWith_nil_right];exact .nil
 |a::ks,q::ps,_,l=>by
  obtain⟨u,r,rfl,h1,h2⟩:=l.uncons
  rw [List.zipWith_cons_cons,List.zipWith_cons_cons];refine .cons ?_ (vK hp h2);split
  ·exact hp
  ·exact h1
theorem mQ{ks:List (List Int)}{ps:List PV}{us:List V}{k:List Int}{p:PV}{v:V}(l:ae W G ps us)(hp:Rep W G p v):ae W G (bq ks ps k p) (bq ks us k v):=by
 unfold bq;split
 ·exact vK hp l
 ·exact l.append (.cons hp .nil)
theorem kq{k:List Int}:∀{ks:List (List Int)} {ps:List PV} {us:List V},ae W G ps us→ae W G (aR ks ps k) (aR ks us k)
 |[],_,_,_=>by unfold aR;exact .nil
 |a::ks,[],_,l=>by simp only [ae] at l;subst l;unfold aR;exact .nil
 |a::ks,q::ps,_,l=>by
  obtain⟨u,r,rfl,h1,h2⟩:=l.uncons
  unfold aR;split
  ·exact kq h2
  ·exact .cons h1 (kq h2)
end
theorem lR:∀{xs:List PV} {ns:List Int},intsOf xs=some ns→xs=ns.map .int
 |[],_,e=>by cases e;rfl
 |.int i::r,_,e=>by
  unfold intsOf at e;obtain⟨ns,h1,rfl⟩:=Option.map_eq_some_iff.mp e
  rw [lR h1];rfl
 |.non::_,_,e=>by cases e
 |.bl _::_,_,e=>by cases e
 |.str _::_,_,e=>by cases e
 |.tup _::_,_,e=>by cases e
 |.lst _::_,_,e=>by cases e
 |.exc _::_,_,e=>by cases e
 |.dct _ _::_,_,e=>by cases e
theorem eK{p:PV}{k:List Int}(h:f9 p=some k):p=ah k:=by
 unfold f9 at h;split at h
 ·rw [lR h];rfl
 ·cases h
end Ci
namespace L2
open PySem PySem.Spec PyProof.Rows
section
variable{X:Cx}
end
end L2
namespace L2
open PySem PySem.Spec PyProof.Rows
section
variable{X:Cx}
theorem uZ(hc:X.calm=true):b9 X (.builtin "sum") (fun xs H Q=>∃(p:Addr) (ns:List Int),xs=[.ref p]∧eh X.K H p (ns.map V.int)∧PyProof.Rows.SumFits ns∧Q (.int ns.sum) H):=by
 intro pins s σ H xs us Q I r h;obtain⟨p,ns,rfl,hp,hfit,q⟩:=h
 obtain⟨u,rfl,ru⟩:=vals1 r
 cases ru;obtain⟨aq,rv,pl,hz⟩:=I.list hp
 have bW:p<s.heap.objs.size:=by obtain⟨_,e,_⟩:=pl.isList;exact Heap.lt_size e
 have hlen:aq.length=ns.length:=by rw [←rv.length,List.length_map]
 refine call_sum_walk (wpAny_pyIter_list pl.isList ?_);refine⟨s.heap.objs.size,_,_,aq.toArray.size,_,_,fun i=>ns.getD i 0,rfl,Walks.list (A:=X.A.in1) (I.ok.hd hc) s.heap.objs.size p (Nat.ne_of_lt bW) aq.toArray,⟨⟨_,Heap.get?_push_size _ rfl,rfl,rfl⟩,pl.isList.push _⟩,fun b hb=>?_,fun i v hP=>?_,fun j hj=>?_,fun h' tk t' hk=>?_⟩
 ·have:b=s.heap.objs.size∨b=p:=by simpa using hb
  rw [Heap.size_push];rcases this with e|e
  ·rw [e];exact Nat.lt_succ_self _
  ·rw [e];exact Nat.lt_succ_of_lt bW
 ·have hv:aq[i]?=some v:=by simpa using hP
  have hi:i<ns.length:=by rw [←hlen];exact(List.getElem?_eq_some_iff.mp hv).1
  obtain⟨u,hu,t,ru⟩:=rv.get (i:=i) (x:=V.int ns[i]) (by rw [List.getElem?_map,List.getElem?_eq_getElem hi];rfl)
  rw [hv] at hu;cases hu;refine⟨t,?_⟩;show _=Value.int (ns.getD i 0) t
  rw [ru,List.getD_eq_getElem?_getD,List.getElem?_eq_getElem hi]
  rfl
 ·rw [List.size_toArray,hlen] at hj;have:=hfit j hj
  show InLong (ns.getD j 0)∧InLong (preSum (fun i=>ns.getD i 0) (j+1))
  rw [preSum_getD];exact this
 ·rw [preSum_getD,List.size_toArray,hlen,List.take_length];exact⟨.int ns.sum,H,I.kept fun b o e=>hk b o (by simp;exact Nat.ne_of_lt (Heap.lt_size e)) (Heap.get?_push_of_some _ e),⟨_,rfl⟩,q⟩
end
end L2
namespace Ci
open PySem L2
theorem kM{n:Nat}(h:n≤fH):n≤sizeLine:=Nat.le_trans h (by decide)
section
variable{X:Cx}{W:Wd}{H0 G H:Hp}
def cL(W:Wd)(G H:Hp)(r:PV)(Q:VK):Prop:=∀v G' H',aE W G H G' H'→Rep W G' r v→Q v H'
theorem cL.at{r:PV}{Q:VK}{v:V}(h:cL W G H r Q)(s:ay G H)(k:Rep W G r v):Q v H:=h v G H (.refl s) k
theorem cL.tup{xs:List PV}{Q:VK}{vs:List V}{p:Addr}(h:cL W G H (.tup xs) Q)(s:ay G H)(k:ae W G xs vs)(hp:H p=none):Q (.ref p) (upd H p (.tup vs)):=
 h _ _ _ (.new s hp) (.t (.inl ag) (ae.same (bh (s.free hp)) xs k))
theorem cL.lst{xs:List PV}{Q:VK}{vs:List V}{p:Addr}(h:cL W G H (.lst xs) Q)(s:ay G H)(k:ae W G xs vs)(hp:H p=none):Q (.ref p) (upd H p (.lst vs)):=
 h _ _ _ (.new s hp) (.l (.inl (.inl ag)) (ae.same (bh (s.free hp)) xs k))
theorem gN{f:PV→PV→Bool}:∀{xs ys:List PV},xs.length≠ys.length→eqs f xs ys=false
 |[],[],h=>absurd rfl h
 |_::xs,_::ys,h=>by simp only [eqs];rw [gN (xs:=xs) (ys:=ys) (fun z=>h (by simp [z]))];simp
 |[],_::_,_=>rfl
 |_::_,[],_=>rfl
theorem gR{f:PV→PV→Bool}:∀{xs ys:List PV},xs.length=ys.length→eqs f xs ys=(List.range xs.length).all fun j=>f (xs.getD j .non) (ys.getD j .non)
 |[],[],_=>rfl
 |x::xs,y::ys,h=>by
  simp only [eqs];rw [gR (xs:=xs) (ys:=ys) (by simpa using h),List.length_cons,List.range_succ_eq_map,List.all_cons,List.all_map]
  rfl
 |[],_::_,h=>by simp at h
 |_::_,[],h=>by simp at h
theorem iB{f:PV→PV→Bool}:∀{xs ys:List PV},((List.range (min xs.length ys.length)).all (fun j=>f (xs.getD j .non) (ys.getD j .non))&&xs.length==ys.length)=eqs f xs ys:=fun{xs ys}=>by
 by_cases h:xs.length=ys.length
 ·rw [gR h,h,Nat.min_self,beq_self_eq_true,Bool.and_true]
 ·rw [gN h,beq_eq_false_iff_ne.mpr h,Bool.and_false]
theorem pX{f:PV→PV→Bool}:∀{xs ys:List PV},xs.length=ys.length→(∀(j:Nat) x y,xs[j]?=some x→ys[j]?=some y→f x y=true)→eqs f xs ys=true
 |[],[],_,_=>rfl
 |x::xs,y::ys,h,k=>by
  simp only [eqs];rw [k 0 x y rfl rfl,pX (xs:=xs) (ys:=ys) (by simpa using h) fun j a b ha hb=>k (j+1) a b (by simpa using ha) (by simpa using hb)]
  rfl
 |[],_::_,h,_=>by simp at h
 |_::_,[],h,_=>by simp at h
theorem dI(hK:W.K=X.K){a:Addr}{vs:List V}(h:LsR W.K H a vs):eh X.K H a vs:=by
 rw [hK] at h;rcases h with h|⟨aq,n,h1,h2,h3⟩
 ·exact .inl h
 ·exact .inr ⟨_,aq,n,h1,rfl,rfl,rfl,h2,h3⟩
theorem gX{pins:List (Addr×Obj)}{σ:St}{s:Shared}(I:Inv X pins σ H s){a:Addr}{vs us:List V}(h1:ez X.K H a vs)(h2:eh X.K H a us):False:=by
 obtain⟨aq,_,⟨o,e,hc,_⟩,_⟩:=I.tuple h1
 obtain⟨aD,_,⟨o2,n,e2,hc2,_⟩,_⟩:=I.list h2
 rw [e] at e2;cases e2;rw [hc] at hc2;exact absurd hc2 (by decide)
theorem sA{pins:List (Addr×Obj)}{σ:St}{s:Shared}(I:Inv X pins σ H s)(hK:W.K=X.K)(sg:ay G H):∀(n:Nat) {p q:PV} {v:V},plain n p=true→plain n q=true→Top W H0 G H p v→Top W H0 G H q v→iU n p q=true:=by
 intro n
 induction n with
 |zero=>
  intro p q v hp hq h1 h2;cases p with
  |non=>
   cases h1.non;cases q with
   |non=>cases h2.non;rfl
   |bl y=>cases h2.bl
   |int y=>cases h2.int
   |str y=>cases h2.str
   |exc c=>exact absurd hq zzf
   |dct a b=>exact absurd hq zzf
   |tup xs=>exact absurd hq zzf
   |lst xs=>exact absurd hq zzf
  |bl x=>
   cases h1.bl;cases q with
   |non=>cases h2.non
   |bl y=>cases h2.bl;exact beq_self_eq_true _
   |int y=>cases h2.int
   |str y=>cases h2.str
   |exc c=>exact absurd hq zzf
   |dct a b=>exact absurd hq zzf
   |tup xs=>exact absurd hq zzf
   |lst xs=>exact absurd hq zzf
  |int x=>
   cases h1.int;cases q with
   |non=>cases h2.non
   |bl y=>cases h2.bl
   |int y=>cases h2.int;exact beq_self_eq_true _
   |str y=>cases h2.str
   |exc c=>exact absurd hq zzf
   |dct a b=>exact absurd hq zzf
   |tup xs=>exact absurd hq zzf
   |lst xs=>exact absurd hq zzf
  |str x=>
   cases h1.str;cases q with
   |non=>cases h2.non
   |bl y=>cases h2.bl
   |int y=>cases h2.int
   |str y=>cases h2.str;exact beq_self_eq_true _
   |exc c=>exact absurd hq zzf
   |dct a b=>exact absurd hq zzf
   |tup xs=>exact absurd hq zzf
   |lst xs=>exact absurd hq zzf
  |exc c=>exact absurd hp zzf
  |dct a b=>exact absurd hp zzf
  |tup xs=>exact absurd hp zzf
  |lst xs=>exact absurd hp zzf
 |succ n ih=>
  intro p q v hp hq h1 h2;have el:∀{xs ys:List PV} {vs:List V},xs.all (plain n)=true→ys.all (plain n)=true→ae W G xs vs→ae W G ys vs→eqs (iU n) xs ys=true:=fun{xs ys vs} a1 a2 l1 l2=>
   pX (by rw [←l1.length,l2.length]) fun j x y ex ey=>by
    obtain⟨u,eu,ku⟩:=l1.getP ex
    obtain⟨y',ey',ky⟩:=l2.get eu
    rw [ey] at ey';cases ey';exact ih (List.all_eq_true.mp a1 _ (List.mem_of_getElem? ex)) (List.all_eq_true.mp a2 _ (List.mem_of_getElem? ey)) (.inl ku) (.inl ky)
  cases p with
  |exc c=>exact absurd hp zzf
  |dct a b=>exact absurd hp zzf
  |tup xs=>
   obtain⟨a,vs,rfl,sq,l⟩:=h1.tup sg
   rw [hK] at sq;cases q with
   |exc c=>exact absurd hq zzf
   |dct a b=>exact absurd hq zzf
   |non=>cases h2.non
   |bl b=>cases h2.bl
   |int b=>cases h2.int
   |str b=>cases h2.str
   |lst ys=>
    obtain⟨b,us,e,sq20,l2⟩:=h2.lst sg
    have bg:=dI hK sq20
    cases e;exact(gX I sq bg).elim
   |tup ys=>
    obtain⟨b,us,e,bg,l2⟩:=h2.tup sg
    rw [hK] at bg;cases e;cases I.tuple_inj sq bg;exact el hp hq l l2
  |lst xs=>
   obtain⟨a,vs,rfl,sq0,l⟩:=h1.lst sg
   have sq:=dI hK sq0
   cases q with
   |exc c=>exact absurd hq zzf
   |dct a b=>exact absurd hq zzf
   |non=>cases h2.non
   |bl b=>cases h2.bl
   |int b=>cases h2.int
   |str b=>cases h2.str
   |tup ys=>
    obtain⟨b,us,e,bg,l2⟩:=h2.tup sg
    rw [hK] at bg;cases e;exact(gX I bg sq).elim
   |lst ys=>
    obtain⟨b,us,e,sq20,l2⟩:=h2.lst sg
    have bg:=dI hK sq20
    cases e;cases I.list_inj sq bg;exact el hp hq l l2
  |non=>
   cases h1.non;cases q with
   |non=>cases h2.non;rfl
   |bl y=>cases h2.bl
   |int y=>cases h2.int
   |str y=>cases h2.str
   |tup ys=>obtain⟨b,us,e,_⟩:=h2.tup sg;cases e
   |lst ys=>obtain⟨b,us,e,_⟩:=h2.lst sg;cases e
   |exc c=>exact absurd hq zzf
   |dct a b=>exact absurd hq zzf
  |bl x=>
   cases h1.bl;cases q with
   |non=>cases h2.non
   |bl y=>cases h2.bl;exact beq_self_eq_true _
   |int y=>cases h2.int
   |str y=>cases h2.str
   |tup ys=>obtain⟨b,us,e,_⟩:=h2.tup sg;cases e
   |lst ys=>obtain⟨b,us,e,_⟩:=h2.lst sg;cases e
   |exc c=>exact absurd hq zzf
   |dct a b=>exact absurd hq zzf
  |int x=>
   cases h1.int;cases q with
   |non=>cases h2.non
   |bl y=>cases h2.bl
   |int y=>cases h2.int;exact beq_self_eq_true _
   |str y=>cases h2.str
   |tup ys=>obtain⟨b,us,e,_⟩:=h2.tup sg;cases e
   |lst ys=>obtain⟨b,us,e,_⟩:=h2.lst sg;cases e
   |exc c=>exact absurd hq zzf
   |dct a b=>exact absurd hq zzf
  |str x=>
   cases h1.str;cases q with
   |non=>cases h2.non
   |bl y=>cases h2.bl
   |int y=>cases h2.int
   |str y=>cases h2.str;exact beq_self_eq_true _
   |tup ys=>obtain⟨b,us,e,_⟩:=h2.tup sg;cases e
   |lst ys=>obtain⟨b,us,e,_⟩:=h2.lst sg;cases e
   |exc c=>exact absurd hq zzf
   |dct a b=>exact absurd hq zzf
theorem gO{pins:List (Addr×Obj)}{σ:St}{s:Shared}{A:Around}{p q:PV}{v u:V}{v' u':Value}(hp:plain 0 p=true)(hq:plain 0 q=true)(h1:Top W H0 G H p v)(h2:Top W H0 G H q u)(r1:RelV v v')(r2:RelV u u')(n:Nat):SeqAt.EqAt A s v' u' (iU n p q):=by
 cases p with
 |non=>
  cases h1.non;cases r1;cases q with
  |non=>cases h2.non;cases r2;cases n<;>exact SeqAt.EqAt.same _
  |bl y=>cases h2.bl;cases r2;cases n<;>exact SeqAt.EqAt.none_bool _
  |int y=>cases h2.int;obtain⟨t2,rfl⟩:=r2;cases n<;>exact SeqAt.EqAt.none_int _ _
  |str y=>cases h2.str;obtain⟨t2,rfl⟩:=r2;cases n<;>exact SeqAt.EqAt.none_str _ _
  |exc c=>exact absurd hq zzf
  |dct a b=>exact absurd hq zzf
  |tup xs=>exact absurd hq zzf
  |lst xs=>exact absurd hq zzf
 |bl x=>
  cases h1.bl;cases r1;cases q with
  |non=>cases h2.non;cases r2;cases n<;>exact SeqAt.EqAt.bool_none _
  |bl y=>cases h2.bl;cases r2;cases n<;>exact SeqAt.EqAt.bool_bool _ _
  |int y=>cases h2.int;obtain⟨t2,rfl⟩:=r2;cases n<;>exact SeqAt.EqAt.bool_int _ _ _
  |str y=>cases h2.str;obtain⟨t2,rfl⟩:=r2;cases n<;>exact SeqAt.EqAt.bool_str _ _ _
  |exc c=>exact absurd hq zzf
  |dct a b=>exact absurd hq zzf
  |tup xs=>exact absurd hq zzf
  |lst xs=>exact absurd hq zzf
 |int x=>
  cases h1.int;obtain⟨t1,rfl⟩:=r1
  cases q with
  |non=>cases h2.non;cases r2;cases n<;>exact SeqAt.EqAt.int_none _ _
  |bl y=>cases h2.bl;cases r2;cases n<;>exact SeqAt.EqAt.int_bool _ _ _
  |int y=>cases h2.int;obtain⟨t2,rfl⟩:=r2;cases n<;>exact SeqAt.EqAt.int_int _ _ _ _
  |str y=>cases h2.str;obtain⟨t2,rfl⟩:=r2;cases n<;>exact SeqAt.EqAt.int_str _ _ _ _
  |exc c=>exact absurd hq zzf
  |dct a b=>exact absurd hq zzf
  |tup xs=>exact absurd hq zzf
  |lst xs=>exact absurd hq zzf
 |str x=>
  cases h1.str;obtain⟨t1,rfl⟩:=r1
  cases q with
  |non=>cases h2.non;cases r2;cases n<;>exact SeqAt.EqAt.str_none _ _
  |bl y=>cases h2.bl;cases r2;cases n<;>exact SeqAt.EqAt.str_bool _ _ _
  |int y=>cases h2.int;obtain⟨t2,rfl⟩:=r2;cases n<;>exact SeqAt.EqAt.str_int _ _ _ _
  |str y=>cases h2.str;obtain⟨t2,rfl⟩:=r2;cases n<;>exact SeqAt.EqAt.str_str _ _ _ _
  |exc c=>exact absurd hq zzf
  |dct a b=>exact absurd hq zzf
  |tup xs=>exact absurd hq zzf
  |lst xs=>exact absurd hq zzf
 |exc c=>exact absurd hp zzf
 |dct a b=>exact absurd hp zzf
 |tup xs=>exact absurd hp zzf
 |lst xs=>exact absurd hp zzf
theorem w9{pins:List (Addr×Obj)}{σ:St}{s:Shared}(I:Inv X pins σ H s)(hK:W.K=X.K)(sg:ay G H):∀(n:Nat) {A:Around} {p q:PV} {v u:V} {v' u':Value},A.units+(n+1)<cLine→plain n p=true→plain n q=true→Top W H0 G H p v→Top W H0 G H q u→RelV v v'→RelV u u'→
 SeqAt.EqAt A s v' u' (iU n p q):=by
 intro n
 induction n with
 |zero=>
  intro A p q v u v' u' hu hp hq h1 h2 r1 r2;exact gO (pins:=pins) (σ:=σ) hp hq h1 h2 r1 r2 0
 |succ n ih=>
  intro A p q v u v' u' hu hp hq h1 h2 r1 r2;have cx:A.units<cLine:=by omega
  have el:∀{xs ys:List PV} {vs us:List V} {aq aD:List Value},xs.all (plain n)=true→ys.all (plain n)=true→ae W G xs vs→ae W G ys us→Vals vs aq→Vals us aD→∀j (h1:j<aq.toArray.size) (h2:j<aD.toArray.size),
   SeqAt.EqAt A.in1 s aq.toArray[j] aD.toArray[j] (iU n (xs.getD j .non) (ys.getD j .non)):=fun{xs ys vs us aq aD} a1 a2 l1 l2 q1 q2 j g1 g2=>by
   obtain⟨x,hx,rx⟩:=iE q1 g1
   obtain⟨y,hy,ry⟩:=iE q2 g2
   obtain⟨px,ex,kx⟩:=l1.get hx
   obtain⟨py,ey,ky⟩:=l2.get hy
   rw [List.getD_eq_getElem?_getD,List.getD_eq_getElem?_getD,ex,ey];exact ih (by show A.units+1+(n+1)<_;omega) (List.all_eq_true.mp a1 _ (List.mem_of_getElem? ex)) (List.all_eq_true.mp a2 _ (List.mem_of_getElem? ey)) (.inl kx) (.inl ky) rx ry
  cases p with
  |exc c=>exact absurd hp zzf
  |dct a b=>exact absurd hp zzf
  |tup xs=>
   have mD:=h1
   obtain⟨a,vs,rfl,sq,l⟩:=h1.tup sg
   rw [hK] at sq;cases r1;obtain⟨aq,q1,z1,_⟩:=I.tuple sq
   have fg:s.heap.IsTuple a aq.toArray:=z1
   cases q with
   |exc c=>exact absurd hq zzf
   |dct a b=>exact absurd hq zzf
   |non=>cases h2.non;cases r2;exact SeqAt.EqAt.tuple_none fg cx
   |bl b=>cases h2.bl;cases r2;exact SeqAt.EqAt.tuple_bool _ fg cx
   |int b=>cases h2.int;obtain⟨t2,rfl⟩:=r2;exact SeqAt.EqAt.tuple_int _ _ fg cx
   |str b=>cases h2.str;obtain⟨t2,rfl⟩:=r2;exact SeqAt.EqAt.tuple_str _ _ fg cx
   |lst ys=>
    obtain⟨b,us,rfl,sq20,l2⟩:=h2.lst sg
    have bg:=dI hK sq20
    cases r2;obtain⟨aD,q2,z2,_⟩:=I.list bg
    exact SeqAt.EqAt.tuple_list fg z2.isList cx
   |tup ys=>
    have sV:=h2
    obtain⟨b,us,rfl,bg,l2⟩:=h2.tup sg
    rw [hK] at bg;cases r2;obtain⟨aD,q2,z2,_⟩:=I.tuple bg
    have m1:aq.length=xs.length:=by rw [←q1.length,l.length]
    have m2:aD.length=ys.length:=by rw [←q2.length,l2.length]
    by_cases fc:a=b
    ·subst fc;rw [sA I hK sg (n+1) hp hq mD sV];exact SeqAt.EqAt.same _
    ·refine SeqAt.EqAt.of_refs fc ?_;have:=SeqAt.RcAt.tuples (e:=fun j=>iU n (xs.getD j .non) (ys.getD j .non)) fg (show s.heap.IsTuple b aD.toArray from z2) cx (el hp hq l l2 q1 q2)
     rw [List.size_toArray,List.size_toArray,m1,m2,iB] at this;exact this
  |lst xs=>
   have mD:=h1
   obtain⟨a,vs,rfl,sq0,l⟩:=h1.lst sg
   have sq:=dI hK sq0
   cases r1;obtain⟨aq,q1,z1,_⟩:=I.list sq
   cases q with
   |exc c=>exact absurd hq zzf
   |dct a b=>exact absurd hq zzf
   |non=>cases h2.non;cases r2;exact SeqAt.EqAt.list_none z1.isList cx
   |bl b=>cases h2.bl;cases r2;exact SeqAt.EqAt.list_bool _ z1.isList cx
   |int b=>cases h2.int;obtain⟨t2,rfl⟩:=r2;exact SeqAt.EqAt.list_int _ _ z1.isList cx
   |str b=>cases h2.str;obtain⟨t2,rfl⟩:=r2;exact SeqAt.EqAt.list_str _ _ z1.isList cx
   |tup ys=>
    obtain⟨b,us,rfl,bg,l2⟩:=h2.tup sg
    rw [hK] at bg;cases r2;obtain⟨aD,q2,z2,_⟩:=I.tuple bg
    exact SeqAt.EqAt.list_tuple z1.isList (show s.heap.IsTuple b aD.toArray from z2) cx
   |lst ys=>
    have sV:=h2
    obtain⟨b,us,rfl,sq20,l2⟩:=h2.lst sg
    have bg:=dI hK sq20
    cases r2;obtain⟨aD,q2,z2,_⟩:=I.list bg
    have m1:aq.length=xs.length:=by rw [←q1.length,l.length]
    have m2:aD.length=ys.length:=by rw [←q2.length,l2.length]
    by_cases fc:a=b
    ·subst fc;rw [sA I hK sg (n+1) hp hq mD sV];exact SeqAt.EqAt.same _
    ·refine SeqAt.EqAt.of_refs fc ?_
     by_cases hl:xs.length=ys.length
     ·have:=SeqAt.RcAt.lists (e:=fun j=>iU n (xs.getD j .non) (ys.getD j .non)) z1.isList z2.isList (by rw [List.size_toArray,List.size_toArray];omega) cx (el hp hq l l2 q1 q2)
      rw [List.size_toArray,m1,←gR hl] at this;exact this
     ·have:=SeqAt.RcAt.lists_lengths z1.isList z2.isList (by rw [List.size_toArray,List.size_toArray,m1,m2];simp [hl]) cx
      show SeqAt.RcAt _ _ _ _ (eqs (iU n) xs ys)
      rw [gN hl];exact this
  |non=>
   have mD:=h1
   cases h1.non;cases r1;cases q with
   |tup ys=>
    obtain⟨b,us,rfl,bg,l2⟩:=h2.tup sg
    rw [hK] at bg;cases r2;obtain⟨aD,q2,z2,_⟩:=I.tuple bg
    exact SeqAt.EqAt.none_tuple (show s.heap.IsTuple b aD.toArray from z2) cx
   |lst ys=>
    obtain⟨b,us,rfl,sq20,l2⟩:=h2.lst sg
    have bg:=dI hK sq20
    cases r2;obtain⟨aD,q2,z2,_⟩:=I.list bg
    exact SeqAt.EqAt.none_list z2.isList cx
   |exc c=>exact absurd hq zzf
   |dct a b=>exact absurd hq zzf
   |_=>exact gO (pins:=pins) (σ:=σ) rfl rfl mD h2 rfl r2 (n+1)
  |bl x=>
   have mD:=h1
   cases h1.bl;cases r1;cases q with
   |tup ys=>
    obtain⟨b,us,rfl,bg,l2⟩:=h2.tup sg
    rw [hK] at bg;cases r2;obtain⟨aD,q2,z2,_⟩:=I.tuple bg
    exact SeqAt.EqAt.bool_tuple _ (show s.heap.IsTuple b aD.toArray from z2) cx
   |lst ys=>
    obtain⟨b,us,rfl,sq20,l2⟩:=h2.lst sg
    have bg:=dI hK sq20
    cases r2;obtain⟨aD,q2,z2,_⟩:=I.list bg
    exact SeqAt.EqAt.bool_list _ z2.isList cx
   |exc c=>exact absurd hq zzf
   |dct a b=>exact absurd hq zzf
   |_=>exact gO (pins:=pins) (σ:=σ) rfl rfl mD h2 rfl r2 (n+1)
  |int x=>
   have mD:=h1
   have JH:=r1
   cases h1.int;obtain⟨t,rfl⟩:=r1
   cases q with
   |tup ys=>
    obtain⟨b,us,rfl,bg,l2⟩:=h2.tup sg
    rw [hK] at bg;cases r2;obtain⟨aD,q2,z2,_⟩:=I.tuple bg
    exact SeqAt.EqAt.int_tuple _ _ (show s.heap.IsTuple b aD.toArray from z2) cx
   |lst ys=>
    obtain⟨b,us,rfl,sq20,l2⟩:=h2.lst sg
    have bg:=dI hK sq20
    cases r2;obtain⟨aD,q2,z2,_⟩:=I.list bg
    exact SeqAt.EqAt.int_list _ _ z2.isList cx
   |exc c=>exact absurd hq zzf
   |dct a b=>exact absurd hq zzf
   |_=>exact gO (pins:=pins) (σ:=σ) rfl rfl mD h2 JH r2 (n+1)
  |str x=>
   have mD:=h1
   have JH:=r1
   cases h1.str;obtain⟨t,rfl⟩:=r1
   cases q with
   |tup ys=>
    obtain⟨b,us,rfl,bg,l2⟩:=h2.tup sg
    rw [hK] at bg;cases r2;obtain⟨aD,q2,z2,_⟩:=I.tuple bg
    exact SeqAt.EqAt.str_tuple _ _ (show s.heap.IsTuple b aD.toArray from z2) cx
   |lst ys=>
    obtain⟨b,us,rfl,sq20,l2⟩:=h2.lst sg
    have bg:=dI hK sq20
    cases r2;obtain⟨aD,q2,z2,_⟩:=I.list bg
    exact SeqAt.EqAt.str_list _ _ z2.isList cx
   |exc c=>exact absurd hq zzf
   |dct a b=>exact absurd hq zzf
   |_=>exact gO (pins:=pins) (σ:=σ) rfl rfl mD h2 JH r2 (n+1)
end
end Ci
namespace Ci
open PySem L2
section
variable{X:Cx}{W:Wd}{H0 G H:Hp}
theorem Fv{pins:List (Addr×Obj)}{σ:St}{s:Shared}(I:Inv X pins σ H s)(hK:W.K=X.K)(sg:ay G H)(n:Nat){A:Around}{p q:PV}{v u:V}{v' u':Value}(hu:A.units+(n+2)<cLine)(hp:plain (n+1) p=true)(hq:plain (n+1) q=true)(h1:Top W H0 G H p v)(h2:Top W H0 G H q u)(r1:RelV v v')(r2:RelV u u'):
 SeqAt.RcAt A s v' u' (iU (n+1) p q):=by
 have cx:A.units<cLine:=by omega
 have el:∀{xs ys:List PV} {vs us:List V} {aq aD:List Value},xs.all (plain n)=true→ys.all (plain n)=true→ae W G xs vs→ae W G ys us→Vals vs aq→Vals us aD→∀j (h1:j<aq.toArray.size) (h2:j<aD.toArray.size),
  SeqAt.EqAt A.in1 s aq.toArray[j] aD.toArray[j] (iU n (xs.getD j .non) (ys.getD j .non)):=fun{xs ys vs us aq aD} a1 a2 l1 l2 q1 q2 j g1 g2=>by
  obtain⟨x,hx,rx⟩:=iE q1 g1
  obtain⟨y,hy,ry⟩:=iE q2 g2
  obtain⟨px,ex,kx⟩:=l1.get hx
  obtain⟨py,ey,ky⟩:=l2.get hy
  rw [List.getD_eq_getElem?_getD,List.getD_eq_getElem?_getD,ex,ey];exact w9 (H0:=H0) I hK sg n (by show A.units+1+(n+1)<_;omega) (List.all_eq_true.mp a1 _ (List.mem_of_getElem? ex)) (List.all_eq_true.mp a2 _ (List.mem_of_getElem? ey)) (.inl kx) (.inl ky) rx ry
 cases p with
 |non=>
  cases h1.non;cases r1;cases q with
  |non=>cases h2.non;cases r2;exact SeqAt.RcAt.none_none
  |bl y=>cases h2.bl;cases r2;exact SeqAt.RcAt.none_bool _
  |int y=>cases h2.int;obtain⟨t2,rfl⟩:=r2;exact SeqAt.RcAt.none_int _ _
  |str y=>cases h2.str;obtain⟨t2,rfl⟩:=r2;exact SeqAt.RcAt.none_str _ _
  |tup ys=>
   obtain⟨b,us,rfl,bg,l2⟩:=h2.tup sg
   rw [hK] at bg;cases r2;obtain⟨aD,q2,z2,_⟩:=I.tuple bg
   exact SeqAt.RcAt.none_tuple (show s.heap.IsTuple b aD.toArray from z2) cx
  |lst ys=>
   obtain⟨b,us,rfl,bg,l2⟩:=h2.lst sg
   cases r2;obtain⟨aD,q2,z2,_⟩:=I.list (dI hK bg)
   exact SeqAt.RcAt.none_list z2.isList cx
  |exc c=>exact absurd hq zzf
  |dct a b=>exact absurd hq zzf
 |bl x=>
  cases h1.bl;cases r1;cases q with
  |non=>cases h2.non;cases r2;exact SeqAt.RcAt.bool_none _
  |bl y=>cases h2.bl;cases r2;exact SeqAt.RcAt.bool_bool _ _
  |int y=>cases h2.int;obtain⟨t2,rfl⟩:=r2;exact SeqAt.RcAt.bool_int _ _ _
  |str y=>cases h2.str;obtain⟨t2,rfl⟩:=r2;exact SeqAt.RcAt.bool_str _ _ _
  |tup ys=>
   obtain⟨b,us,rfl,bg,l2⟩:=h2.tup sg
   rw [hK] at bg;cases r2;obtain⟨aD,q2,z2,_⟩:=I.tuple bg
   exact SeqAt.RcAt.bool_tuple _ (show s.heap.IsTuple b aD.toArray from z2) cx
  |lst ys=>
   obtain⟨b,us,rfl,bg,l2⟩:=h2.lst sg
   cases r2;obtain⟨aD,q2,z2,_⟩:=I.list (dI hK bg)
   exact SeqAt.RcAt.bool_list _ z2.isList cx
  |exc c=>exact absurd hq zzf
  |dct a b=>exact absurd hq zzf
 |int x=>
  cases h1.int;obtain⟨t1,rfl⟩:=r1
  cases q with
  |non=>cases h2.non;cases r2;exact SeqAt.RcAt.int_none _ _
  |bl y=>cases h2.bl;cases r2;exact SeqAt.RcAt.int_bool _ _ _
  |int y=>cases h2.int;obtain⟨t2,rfl⟩:=r2;exact SeqAt.RcAt.int_int _ _ _ _
  |str y=>cases h2.str;obtain⟨t2,rfl⟩:=r2;exact SeqAt.RcAt.int_str _ _ _ _
  |tup ys=>
   obtain⟨b,us,rfl,bg,l2⟩:=h2.tup sg
   rw [hK] at bg;cases r2;obtain⟨aD,q2,z2,_⟩:=I.tuple bg
   exact SeqAt.RcAt.int_tuple _ _ (show s.heap.IsTuple b aD.toArray from z2) cx
  |lst ys=>
   obtain⟨b,us,rfl,bg,l2⟩:=h2.lst sg
   cases r2;obtain⟨aD,q2,z2,_⟩:=I.list (dI hK bg)
   exact SeqAt.RcAt.int_list _ _ z2.isList cx
  |exc c=>exact absurd hq zzf
  |dct a b=>exact absurd hq zzf
 |str x=>
  cases h1.str;obtain⟨t1,rfl⟩:=r1
  cases q with
  |non=>cases h2.non;cases r2;exact SeqAt.RcAt.str_none _ _
  |bl y=>cases h2.bl;cases r2;exact SeqAt.RcAt.str_bool _ _ _
  |int y=>cases h2.int;obtain⟨t2,rfl⟩:=r2;exact SeqAt.RcAt.str_int _ _ _ _
  |str y=>cases h2.str;obtain⟨t2,rfl⟩:=r2;exact SeqAt.RcAt.str_str _ _ _ _
  |tup ys=>
   obtain⟨b,us,rfl,bg,l2⟩:=h2.tup sg
   rw [hK] at bg;cases r2;obtain⟨aD,q2,z2,_⟩:=I.tuple bg
   exact SeqAt.RcAt.str_tuple _ _ (show s.heap.IsTuple b aD.toArray from z2) cx
  |lst ys=>
   obtain⟨b,us,rfl,bg,l2⟩:=h2.lst sg
   cases r2;obtain⟨aD,q2,z2,_⟩:=I.list (dI hK bg)
   exact SeqAt.RcAt.str_list _ _ z2.isList cx
  |exc c=>exact absurd hq zzf
  |dct a b=>exact absurd hq zzf
 |tup xs=>
  obtain⟨a,vs,rfl,sq,l⟩:=h1.tup sg
  cases r1;rw [hK] at sq;obtain⟨aq,q1,z1,_⟩:=I.tuple sq
  have fg:s.heap.IsTuple a aq.toArray:=z1
  cases q with
  |non=>cases h2.non;cases r2;exact SeqAt.RcAt.tuple_none fg cx
  |bl y=>cases h2.bl;cases r2;exact SeqAt.RcAt.tuple_bool _ fg cx
  |int y=>cases h2.int;obtain⟨t2,rfl⟩:=r2;exact SeqAt.RcAt.tuple_int _ _ fg cx
  |str y=>cases h2.str;obtain⟨t2,rfl⟩:=r2;exact SeqAt.RcAt.tuple_str _ _ fg cx
  |exc c=>exact absurd hq zzf
  |dct a b=>exact absurd hq zzf
  |lst ys=>
   obtain⟨b,us,rfl,bg,l2⟩:=h2.lst sg
   cases r2;obtain⟨aD,q2,z2,_⟩:=I.list (dI hK bg)
   have nq:=z2.isList
   exact SeqAt.RcAt.tuple_list fg nq cx
  |tup ys=>
   obtain⟨b,us,rfl,bg,l2⟩:=h2.tup sg
   cases r2;rw [hK] at bg;obtain⟨aD,q2,z2,_⟩:=I.tuple bg
   have nq:s.heap.IsTuple b aD.toArray:=z2
   have m1:aq.length=xs.length:=by rw [←q1.length,l.length]
   have m2:aD.length=ys.length:=by rw [←q2.length,l2.length]
   have:=SeqAt.RcAt.tuples (e:=fun j=>iU n (xs.getD j .non) (ys.getD j .non)) fg nq cx (el hp hq l l2 q1 q2)
   rw [List.size_toArray,List.size_toArray,m1,m2,iB] at this;exact this
 |lst xs=>
  obtain⟨a,vs,rfl,sq,l⟩:=h1.lst sg
  cases r1;obtain⟨aq,q1,z1,_⟩:=I.list (dI hK sq)
  have fg:=z1.isList
  cases q with
  |non=>cases h2.non;cases r2;exact SeqAt.RcAt.list_none fg cx
  |bl y=>cases h2.bl;cases r2;exact SeqAt.RcAt.list_bool _ fg cx
  |int y=>cases h2.int;obtain⟨t2,rfl⟩:=r2;exact SeqAt.RcAt.list_int _ _ fg cx
  |str y=>cases h2.str;obtain⟨t2,rfl⟩:=r2;exact SeqAt.RcAt.list_str _ _ fg cx
  |exc c=>exact absurd hq zzf
  |dct a b=>exact absurd hq zzf
  |tup ys=>
   obtain⟨b,us,rfl,bg,l2⟩:=h2.tup sg
   cases r2;rw [hK] at bg;obtain⟨aD,q2,z2,_⟩:=I.tuple bg
   have nq:s.heap.IsTuple b aD.toArray:=z2
   exact SeqAt.RcAt.list_tuple fg nq cx
  |lst ys=>
   obtain⟨b,us,rfl,bg,l2⟩:=h2.lst sg
   cases r2;obtain⟨aD,q2,z2,_⟩:=I.list (dI hK bg)
   have nq:=z2.isList
   have m1:aq.length=xs.length:=by rw [←q1.length,l.length]
   have m2:aD.length=ys.length:=by rw [←q2.length,l2.length]
   by_cases hl:xs.length=ys.length
   ·have:=SeqAt.RcAt.lists (e:=fun j=>iU n (xs.getD j .non) (ys.getD j .non)) fg nq (by rw [List.size_toArray,List.size_toArray];omega) cx (el hp hq l l2 q1 q2)
    rw [List.size_toArray,m1,←gR hl] at this;exact this
   ·have:=SeqAt.RcAt.lists_lengths fg nq (by rw [List.size_toArray,List.size_toArray,m1,m2];simp [hl]) cx
    show SeqAt.RcAt _ _ _ _ (eqs (iU n) xs ys)
    rw [gN hl];exact this
 |exc c=>exact absurd hp zzf
 |dct a b=>exact absurd hp zzf
theorem zL{pins:List (Addr×Obj)}{σ:St}{s:Shared}(I:Inv X pins σ H s)(hK:W.K=X.K)(sg:ay G H)(n:Nat){A:Around}{p q:PV}{v u:V}{v' u':Value}(hu:A.units+(n+2)<cLine)(hp:plain (n+1) p=true)(hq:plain (n+1) q=true)(h1:Top W H0 G H p v)(h2:Top W H0 G H q u)(r1:RelV v v')(r2:RelV u u'):
 SeqAt.RcNeAt A s v' u' (!iU (n+1) p q):=by
 have cx:A.units<cLine:=by omega
 have el:∀{xs ys:List PV} {vs us:List V} {aq aD:List Value},xs.all (plain n)=true→ys.all (plain n)=true→ae W G xs vs→ae W G ys us→Vals vs aq→Vals us aD→∀j (h1:j<aq.toArray.size) (h2:j<aD.toArray.size),
  SeqAt.EqAt A.in1 s aq.toArray[j] aD.toArray[j] (iU n (xs.getD j .non) (ys.getD j .non)):=fun{xs ys vs us aq aD} a1 a2 l1 l2 q1 q2 j g1 g2=>by
  obtain⟨x,hx,rx⟩:=iE q1 g1
  obtain⟨y,hy,ry⟩:=iE q2 g2
  obtain⟨px,ex,kx⟩:=l1.get hx
  obtain⟨py,ey,ky⟩:=l2.get hy
  rw [List.getD_eq_getElem?_getD,List.getD_eq_getElem?_getD,ex,ey];exact w9 (H0:=H0) I hK sg n (by show A.units+1+(n+1)<_;omega) (List.all_eq_true.mp a1 _ (List.mem_of_getElem? ex)) (List.all_eq_true.mp a2 _ (List.mem_of_getElem? ey)) (.inl kx) (.inl ky) rx ry
 cases p with
 |non=>
  cases h1.non;cases r1;cases q with
  |non=>cases h2.non;cases r2;exact SeqAt.RcNeAt.none_none
  |bl y=>cases h2.bl;cases r2;exact SeqAt.RcNeAt.none_bool _
  |int y=>cases h2.int;obtain⟨t2,rfl⟩:=r2;exact SeqAt.RcNeAt.none_int _ _
  |str y=>cases h2.str;obtain⟨t2,rfl⟩:=r2;exact SeqAt.RcNeAt.none_str _ _
  |tup ys=>
   obtain⟨b,us,rfl,bg,l2⟩:=h2.tup sg
   rw [hK] at bg;cases r2;obtain⟨aD,q2,z2,_⟩:=I.tuple bg
   exact SeqAt.RcNeAt.none_tuple (show s.heap.IsTuple b aD.toArray from z2) cx
  |lst ys=>
   obtain⟨b,us,rfl,bg,l2⟩:=h2.lst sg
   cases r2;obtain⟨aD,q2,z2,_⟩:=I.list (dI hK bg)
   exact SeqAt.RcNeAt.none_list z2.isList cx
  |exc c=>exact absurd hq zzf
  |dct a b=>exact absurd hq zzf
 |bl x=>
  cases h1.bl;cases r1;cases q with
  |non=>cases h2.non;cases r2;exact SeqAt.RcNeAt.bool_none _
  |bl y=>cases h2.bl;cases r2;exact SeqAt.RcNeAt.bool_bool _ _
  |int y=>cases h2.int;obtain⟨t2,rfl⟩:=r2;exact SeqAt.RcNeAt.bool_int _ _ _
  |str y=>cases h2.str;obtain⟨t2,rfl⟩:=r2;exact SeqAt.RcNeAt.bool_str _ _ _
  |tup ys=>
   obtain⟨b,us,rfl,bg,l2⟩:=h2.tup sg
   rw [hK] at bg;cases r2;obtain⟨aD,q2,z2,_⟩:=I.tuple bg
   exact SeqAt.RcNeAt.bool_tuple _ (show s.heap.IsTuple b aD.toArray from z2) cx
  |lst ys=>
   obtain⟨b,us,rfl,bg,l2⟩:=h2.lst sg
   cases r2;obtain⟨aD,q2,z2,_⟩:=I.list (dI hK bg)
   exact SeqAt.RcNeAt.bool_list _ z2.isList cx
  |exc c=>exact absurd hq zzf
  |dct a b=>exact absurd hq zzf
 |int x=>
  cases h1.int;obtain⟨t1,rfl⟩:=r1
  cases q with
  |non=>cases h2.non;cases r2;exact SeqAt.RcNeAt.int_none _ _
  |bl y=>cases h2.bl;cases r2;exact SeqAt.RcNeAt.int_bool _ _ _
  |int y=>cases h2.int;obtain⟨t2,rfl⟩:=r2;exact SeqAt.RcNeAt.int_int _ _ _ _
  |str y=>cases h2.str;obtain⟨t2,rfl⟩:=r2;exact SeqAt.RcNeAt.int_str _ _ _ _
  |tup ys=>
   obtain⟨b,us,rfl,bg,l2⟩:=h2.tup sg
   rw [hK] at bg;cases r2;obtain⟨aD,q2,z2,_⟩:=I.tuple bg
   exact SeqAt.RcNeAt.int_tuple _ _ (show s.heap.IsTuple b aD.toArray from z2) cx
  |lst ys=>
   obtain⟨b,us,rfl,bg,l2⟩:=h2.lst sg
   cases r2;obtain⟨aD,q2,z2,_⟩:=I.list (dI hK bg)
   exact SeqAt.RcNeAt.int_list _ _ z2.isList cx
  |exc c=>exact absurd hq zzf
  |dct a b=>exact absurd hq zzf
 |str x=>
  cases h1.str;obtain⟨t1,rfl⟩:=r1
  cases q with
  |non=>cases h2.non;cases r2;exact SeqAt.RcNeAt.str_none _ _
  |bl y=>cases h2.bl;cases r2;exact SeqAt.RcNeAt.str_bool _ _ _
  |int y=>cases h2.int;obtain⟨t2,rfl⟩:=r2;exact SeqAt.RcNeAt.str_int _ _ _ _
  |str y=>cases h2.str;obtain⟨t2,rfl⟩:=r2;exact SeqAt.RcNeAt.str_str _ _ _ _
  |tup ys=>
   obtain⟨b,us,rfl,bg,l2⟩:=h2.tup sg
   rw [hK] at bg;cases r2;obtain⟨aD,q2,z2,_⟩:=I.tuple bg
   exact SeqAt.RcNeAt.str_tuple _ _ (show s.heap.IsTuple b aD.toArray from z2) cx
  |lst ys=>
   obtain⟨b,us,rfl,bg,l2⟩:=h2.lst sg
   cases r2;obtain⟨aD,q2,z2,_⟩:=I.list (dI hK bg)
   exact SeqAt.RcNeAt.str_list _ _ z2.isList cx
  |exc c=>exact absurd hq zzf
  |dct a b=>exact absurd hq zzf
 |tup xs=>
  obtain⟨a,vs,rfl,sq,l⟩:=h1.tup sg
  cases r1;rw [hK] at sq;obtain⟨aq,q1,z1,_⟩:=I.tuple sq
  have fg:s.heap.IsTuple a aq.toArray:=z1
  cases q with
  |non=>cases h2.non;cases r2;exact SeqAt.RcNeAt.tuple_none fg cx
  |bl y=>cases h2.bl;cases r2;exact SeqAt.RcNeAt.tuple_bool _ fg cx
  |int y=>cases h2.int;obtain⟨t2,rfl⟩:=r2;exact SeqAt.RcNeAt.tuple_int _ _ fg cx
  |str y=>cases h2.str;obtain⟨t2,rfl⟩:=r2;exact SeqAt.RcNeAt.tuple_str _ _ fg cx
  |exc c=>exact absurd hq zzf
  |dct a b=>exact absurd hq zzf
  |lst ys=>
   obtain⟨b,us,rfl,bg,l2⟩:=h2.lst sg
   cases r2;obtain⟨aD,q2,z2,_⟩:=I.list (dI hK bg)
   have nq:=z2.isList
   exact SeqAt.RcNeAt.tuple_list fg nq cx
  |tup ys=>
   obtain⟨b,us,rfl,bg,l2⟩:=h2.tup sg
   cases r2;rw [hK] at bg;obtain⟨aD,q2,z2,_⟩:=I.tuple bg
   have nq:s.heap.IsTuple b aD.toArray:=z2
   have m1:aq.length=xs.length:=by rw [←q1.length,l.length]
   have m2:aD.length=ys.length:=by rw [←q2.length,l2.length]
   have:=SeqAt.RcNeAt.tuples (e:=fun j=>iU n (xs.getD j .non) (ys.getD j .non)) fg nq cx (el hp hq l l2 q1 q2)
   rw [List.size_toArray,List.size_toArray,m1,m2,iB] at this;exact this
 |lst xs=>
  obtain⟨a,vs,rfl,sq,l⟩:=h1.lst sg
  cases r1;obtain⟨aq,q1,z1,_⟩:=I.list (dI hK sq)
  have fg:=z1.isList
  cases q with
  |non=>cases h2.non;cases r2;exact SeqAt.RcNeAt.list_none fg cx
  |bl y=>cases h2.bl;cases r2;exact SeqAt.RcNeAt.list_bool _ fg cx
  |int y=>cases h2.int;obtain⟨t2,rfl⟩:=r2;exact SeqAt.RcNeAt.list_int _ _ fg cx
  |str y=>cases h2.str;obtain⟨t2,rfl⟩:=r2;exact SeqAt.RcNeAt.list_str _ _ fg cx
  |exc c=>exact absurd hq zzf
  |dct a b=>exact absurd hq zzf
  |tup ys=>
   obtain⟨b,us,rfl,bg,l2⟩:=h2.tup sg
   cases r2;rw [hK] at bg;obtain⟨aD,q2,z2,_⟩:=I.tuple bg
   have nq:s.heap.IsTuple b aD.toArray:=z2
   exact SeqAt.RcNeAt.list_tuple fg nq cx
  |lst ys=>
   obtain⟨b,us,rfl,bg,l2⟩:=h2.lst sg
   cases r2;obtain⟨aD,q2,z2,_⟩:=I.list (dI hK bg)
   have nq:=z2.isList
   have m1:aq.length=xs.length:=by rw [←q1.length,l.length]
   have m2:aD.length=ys.length:=by rw [←q2.length,l2.length]
   by_cases hl:xs.length=ys.length
   ·have:=SeqAt.RcNeAt.lists (e:=fun j=>iU n (xs.getD j .non) (ys.getD j .non)) fg nq (by rw [List.size_toArray,List.size_toArray];omega) cx (el hp hq l l2 q1 q2)
    rw [List.size_toArray,m1,←gR hl] at this;exact this
   ·have:=SeqAt.RcNeAt.lists_lengths fg nq (by rw [List.size_toArray,List.size_toArray,m1,m2];simp [hl]) cx
    show SeqAt.RcNeAt _ _ _ _ (!eqs (iU n) xs ys)
    rw [gN hl];exact this
 |exc c=>exact absurd hp zzf
 |dct a b=>exact absurd hp zzf
end
end Ci
namespace Ci
open PySem L2
section
variable{X:Cx}{W:Wd}
theorem AR(hK:W.K=X.K){pins:List (Addr×Obj)}{σ:St}{H:Hp}{s:Shared}{a:Addr}{xs:List V}(I:Inv X pins σ H s)(h:LsR W.K H a xs):∃(aq:List Value) (n:Nat),Vals xs aq∧xs.length=aq.length∧xs.length≤sizeLine∧s.heap.get? a=some {cls:=.type "list",data:=.seq aq.toArray n}:=by
 rw [hK] at h;rcases h with h|⟨aq,n,h1,h2,h3⟩
 ·obtain⟨z,aq,n,r,e⟩:=h.ok I.hok
  exact⟨aq,n,r,r.length,z,e⟩
 ·refine⟨aq.toList,n,h3,h3.length,?_,by simpa using I.kIn a _ h1⟩;rw [h3.length,Array.length_toList];exact h2
theorem As(hK:W.K=X.K):eO X (binaryOp .Add) (fun x y H Q=>∃l b xs zs,x=.ref l∧y=.ref b∧LsR W.K H l xs∧LsR W.K H b zs∧xs.length+zs.length≤sizeLine∧∀p,H p=none→Q (.ref p) (upd H p (.lst (xs++zs)))):=by
 intro pins s σ H x y v u Q I rx ry h;obtain⟨l,b,xs,zs,rfl,rfl,hH,hB,hz,q⟩:=h
 cases rx;cases ry;obtain⟨aq,n,r,hl,_,e⟩:=AR hK I hH
 obtain⟨aD,n2,r2,Jv,_,e2⟩:=AR hK I hB
 refine PySem.P.add_list e e2 ?_ (by rw [List.size_toArray,List.size_toArray];omega);have ea:aq.toArray++aD.toArray=(aq++aD).toArray:=by simp
 rw [ea];exact⟨.ref _,_,I.lnew (t':=s.toks) (r.append r2) (by rw [List.length_append];omega),rfl,q _ I.fresh⟩
theorem ae.rep{G:Hp}{ps:List PV}{vs:List V}(h:ae W G ps vs):∀k:Nat,ae W G (List.replicate k ps).flatten (List.replicate k vs).flatten
 |0=>.nil
 |k+1=>by
  rw [List.replicate_succ,List.replicate_succ,List.flatten_cons,List.flatten_cons];exact h.append (h.rep k)
def Jh:Ez→Operator
 |.add=>.Add|.sub=>.Sub|.mul=>.Mult|.mod=>.Mod|.fdiv=>.FloorDiv
noncomputable def qd(W:Wd)(f:PV→PV→Res PV):R2:=fun x y H Q=>∃H0 G p q r,ay G H∧Top W H0 G H p x∧Top W H0 G H q y∧f p q=.ok r∧cL W G H r Q
theorem DA(hK:W.K=X.K)(o:Ez):eO X (binaryOp (Jh o)) (qd W (binOp o)):=by
 intro pins s σ H x y v u Q I rx ry h;obtain⟨H0,G,p,q,r,sg,t1,t2,e,wq⟩:=h
 unfold binOp at e;split at e
 ·cases e;exact D9 pins s σ H x y v u Q I rx ry ⟨_,_,t1.int,t2.int,wq.at sg .i⟩
 ·split at e
  ·rename_i hl;cases e;exact rG pins s σ H x y v u Q I rx ry ⟨_,_,t1.str,t2.str,kM hl,wq.at sg .s⟩
  ·cases e
 ·split at e
  ·rename_i hl;cases e;obtain⟨a,vs,rfl,h1,l1⟩:=t1.lst sg
   obtain⟨b,us,rfl,h2,l2⟩:=t2.lst sg
   exact As hK pins s σ H _ _ v u Q I rx ry ⟨a,b,vs,us,rfl,rfl,h1,h2,by rw [l1.length,l2.length];exact kM hl,fun p hp=>wq.lst sg (l1.append l2) hp⟩
  ·cases e
 ·cases e;exact Dg pins s σ H x y v u Q I rx ry ⟨_,_,t1.int,t2.int,wq.at sg .i⟩
 ·split at e
  ·rename_i hc;cases e;refine Cy pins s σ H x y v u Q I rx ry ⟨_,_,t1.int,t2.int,?_,wq.at sg .i⟩;rw [Bool.or_eq_true] at hc;unfold aO at hc;simp only [Bool.and_eq_true,decide_eq_true_eq] at hc;exact hc
  ·cases e
 ·split at e
  ·rename_i hc;cases e;obtain⟨a,vs,rfl,h1,l1⟩:=t1.tup sg
   rw [hK] at h1;have m1:=l1.length
   exact A3 pins s σ H _ _ v u Q I rx ry ⟨a,_,vs,rfl,t2.int,h1,hc.1,hc.2.1,by rw [m1];exact hc.2.2.1,by rw [m1];exact hc.2.2.2,fun p hp=>wq.tup sg (l1.rep _) hp⟩
  ·cases e
 ·split at e
  ·rename_i hc;cases e;exact qr pins s σ H x y v u Q I rx ry ⟨_,_,t1.str,t2.int,hc.1,hc.2.1,hc.2.2.1,hc.2.2.2,wq.at sg .s⟩
  ·cases e
 ·split at e
  ·rename_i hc;cases e;exact BM pins s σ H x y v u Q I rx ry ⟨_,_,t1.int,t2.int,hc,wq.at sg .i⟩
  ·cases e
 ·split at e
  ·rename_i hc;cases e;exact zf pins s σ H x y v u Q I rx ry ⟨_,_,t1.int,t2.int,hc,wq.at sg .i⟩
  ·cases e
 ·cases e
theorem yG:Ht X (unaryOp .USub) (fun x H Q=>∃(H0 G:Hp) (i:Int),ay G H∧Top W H0 G H (.int i) x∧cL W G H (.int (-i)) Q):=by
 intro pins s σ H x v Q I rx h;obtain⟨H0,G,i,sg,t,wq⟩:=h
 exact Ek pins s σ H x v Q I rx ⟨i,t.int,wq.at sg .i⟩
def oo:xY→CmpOp
 |.eq=>.Eq|.ne=>.NotEq|.lt=>.Lt|.le=>.LtE|.gt=>.Gt|.ge=>.GtE|.is=>.Is|.isn=>.IsNot|.in_=>.In|.nin=>.NotIn
theorem lE{pins:List (Addr×Obj)}{σ:St}{H G:Hp}{s:Shared}{Q:VK}{k:Bool}(I:Inv X pins σ H s)(sg:ay G H)(wq:cL W G H (.bl k) Q):EP X pins σ Q (.bool k) s:=⟨.bl k,H,I,rfl,wq.at sg .b⟩
theorem BJ(hK:W.K=X.K)(hu:X.A.units+64<cLine):eO X (compareOp .Eq) (qd W iO):=by
 intro pins s σ H x y v u Q I rx ry h;obtain⟨H0,G,p,q,r,sg,t1,t2,e,wq⟩:=h
 unfold iO at e;split at e
 ·rename_i hc;rw [Bool.and_eq_true] at hc;cases e;exact Fv I hK sg 8 (by omega) hc.1 hc.2 t1 t2 rx ry _ _ _ _ (lE I sg wq)
 ·cases e
theorem Ei(hK:W.K=X.K)(hu:X.A.units+64<cLine):eO X (compareOp .NotEq) (qd W iN):=by
 intro pins s σ H x y v u Q I rx ry h;obtain⟨H0,G,p,q,r,sg,t1,t2,e,wq⟩:=h
 unfold iN at e;split at e
 ·rename_i hc;rw [Bool.and_eq_true] at hc;cases e;exact zL I hK sg 8 (by omega) hc.1 hc.2 t1 t2 rx ry _ _ _ _ (lE I sg wq)
 ·cases e
theorem eM{G:Hp}:∀{xs:List PV} {vs:List V} {ns:List Int},ae W G xs vs→intsOf xs=some ns→vs=ns.map V.int
 |[],vs,ns,h,e=>by simp only [ae] at h;subst h;cases e;rfl
 |.int i::r,vs,ns,h,e=>by
  obtain⟨v,t,rfl,h1,h2⟩:=h.uncons
  simp only [Rep] at h1;subst h1;unfold intsOf at e;obtain⟨m,hm,rfl⟩:=Option.map_eq_some_iff.mp e
  rw [eM h2 hm]
  rfl
 |.non::_,_,_,_,e=>by cases e
 |.bl _::_,_,_,_,e=>by cases e
 |.str _::_,_,_,_,e=>by cases e
 |.tup _::_,_,_,_,e=>by cases e
 |.lst _::_,_,_,_,e=>by cases e
 |.exc _::_,_,_,_,e=>by cases e
 |.dct _ _::_,_,_,_,e=>by cases e
theorem i4{G:Hp}:∀{xs:List PV} {vs:List V} {ns:List Bool},ae W G xs vs→boolsOf xs=some ns→vs=ns.map V.bl
 |[],vs,ns,h,e=>by simp only [ae] at h;subst h;cases e;rfl
 |.bl i::r,vs,ns,h,e=>by
  obtain⟨v,t,rfl,h1,h2⟩:=h.uncons
  simp only [Rep] at h1;subst h1;unfold boolsOf at e;obtain⟨m,hm,rfl⟩:=Option.map_eq_some_iff.mp e
  rw [i4 h2 hm]
  rfl
 |.non::_,_,_,_,e=>by cases e
 |.int _::_,_,_,_,e=>by cases e
 |.str _::_,_,_,_,e=>by cases e
 |.tup _::_,_,_,_,e=>by cases e
 |.lst _::_,_,_,_,e=>by cases e
 |.exc _::_,_,_,_,e=>by cases e
 |.dct _ _::_,_,_,_,e=>by cases e
theorem Res.of_ok{α:Type}{o:Option α}{a:α}(h:Res.of o=.ok a):o=some a:=by
 cases o with
 |none=>cases h
 |some b=>cases h;rfl
theorem Ds(hK:W.K=X.K)(hu:X.A.units+64<cLine):eO X (compareOp .Lt) (qd W pL):=by
 intro pins s σ H x y v u Q I rx ry h;obtain⟨H0,G,p,q,r,sg,t1,t2,e,wq⟩:=h
 unfold pL at e;split at e
 ·cases e;exact GC pins s σ H x y v u Q I rx ry ⟨_,_,t1.int,t2.int,wq.at sg .b⟩
 ·obtain⟨ns,h1,e⟩:=Res.bind_ok e
  obtain⟨ms,h2,e⟩:=Res.bind_ok e
  cases e;obtain⟨a,vs,rfl,q1,l1⟩:=t1.tup sg
  obtain⟨b,us,rfl,q2,l2⟩:=t2.tup sg
  rw [hK] at q1 q2;have e1:=eM l1 (Res.of_ok h1)
  have e2:=eM l2 (Res.of_ok h2)
  subst e1 e2;exact Du (by omega) pins s σ H _ _ v u Q I rx ry ⟨a,b,ns,ms,rfl,rfl,q1,q2,wq.at sg .b⟩
 ·cases e
theorem DC:eO X (compareOp .LtE) (qd W oJ):=by
 intro pins s σ H x y v u Q I rx ry h;obtain⟨H0,G,p,q,r,sg,t1,t2,e,wq⟩:=h
 unfold oJ at e;split at e
 ·cases e;exact GH pins s σ H x y v u Q I rx ry ⟨_,_,t1.int,t2.int,wq.at sg .b⟩
 ·cases e
theorem B1:eO X (compareOp .Gt) (qd W qV):=by
 intro pins s σ H x y v u Q I rx ry h;obtain⟨H0,G,p,q,r,sg,t1,t2,e,wq⟩:=h
 unfold qV at e;split at e
 ·cases e;exact ER pins s σ H x y v u Q I rx ry ⟨_,_,t1.int,t2.int,wq.at sg .b⟩
 ·cases e
theorem B6:eO X (compareOp .GtE) (qd W qj):=by
 intro pins s σ H x y v u Q I rx ry h;obtain⟨H0,G,p,q,r,sg,t1,t2,e,wq⟩:=h
 unfold qj at e;split at e
 ·cases e;exact G6 pins s σ H x y v u Q I rx ry ⟨_,_,t1.int,t2.int,wq.at sg .b⟩
 ·cases e
theorem lV{H0 G H:Hp}{p:PV}{x:V}(sg:ay G H)(t:Top W H0 G H p x):decide (x=.non)=xk p:=by
 cases p with
 |non=>cases t.non;rfl
 |bl b=>cases t.bl;rfl
 |int b=>cases t.int;rfl
 |str b=>cases t.str;rfl
 |tup b=>obtain⟨a,vs,rfl,_⟩:=t.tup sg;rfl
 |lst b=>obtain⟨a,vs,rfl,_⟩:=t.lst sg;rfl
 |dct b c=>obtain⟨a,vs,rfl,_⟩:=t.dct sg;rfl
 |exc c=>
  rcases t with t|t
  ·simp only [Rep] at t;obtain⟨a,C,rfl,_⟩:=t
   rfl
  ·exact t.elim
theorem Em:eO X (compareOp .Is) (qd W rg):=by
 intro pins s σ H x y v u Q I rx ry h;obtain⟨H0,G,p,q,r,sg,t1,t2,e,wq⟩:=h
 unfold rg at e;split at e
 ·cases e;refine BY pins s σ H x y v u Q I rx ry ⟨t2.non,?_⟩;rw [lV sg t1];exact wq.at sg .b
 ·cases e
theorem Ak:eO X (compareOp .IsNot) (qd W eZ):=by
 intro pins s σ H x y v u Q I rx ry h;obtain⟨H0,G,p,q,r,sg,t1,t2,e,wq⟩:=h
 unfold eZ at e;split at e
 ·cases e;refine yD pins s σ H x y v u Q I rx ry ⟨t2.non,?_⟩;rw [lV sg t1];exact wq.at sg .b
 ·cases e;exact pE pins s σ H x y v u Q I rx ry ⟨_,_,t1.bl,t2.bl,wq.at sg .b⟩
 ·cases e
end
end Ci
namespace Ci
open PySem L2
theorem iP{α:Type}:∀{xs ys:List α},xs.length=ys.length→(∀(j:Nat) x y,xs[j]?=some x→ys[j]?=some y→x=y)→xs=ys
 |[],[],_,_=>rfl
 |x::xs,y::ys,h,k=>by rw [k 0 x y rfl rfl,iP (xs:=xs) (ys:=ys) (by simpa using h) fun j a b ha hb=>k (j+1) a b (by simpa using ha) (by simpa using hb)]
 |[],_::_,h,_=>by simp at h
 |_::_,[],h,_=>by simp at h
section
variable{X:Cx}{W:Wd}{H0 G H:Hp}
theorem A4{pins:List (Addr×Obj)}{σ:St}{s:Shared}(I:Inv X pins σ H s)(hK:W.K=X.K)(sg:ay G H):∀(n:Nat) {p q:PV} {v:V},plain n p=true→plain n q=true→Top W H0 G H p v→Top W H0 G H q v→p=q:=by
 intro n
 induction n with
 |zero=>
  intro p q v hp hq h1 h2;cases p with
  |non=>
   cases h1.non;cases q with
   |non=>cases h2.non;rfl
   |bl y=>cases h2.bl
   |int y=>cases h2.int
   |str y=>cases h2.str
   |exc c=>exact absurd hq zzf
   |dct a b=>exact absurd hq zzf
   |tup xs=>exact absurd hq zzf
   |lst xs=>exact absurd hq zzf
  |bl x=>
   cases h1.bl;cases q with
   |non=>cases h2.non
   |bl y=>cases h2.bl;rfl
   |int y=>cases h2.int
   |str y=>cases h2.str
   |exc c=>exact absurd hq zzf
   |dct a b=>exact absurd hq zzf
   |tup xs=>exact absurd hq zzf
   |lst xs=>exact absurd hq zzf
  |int x=>
   cases h1.int;cases q with
   |non=>cases h2.non
   |bl y=>cases h2.bl
   |int y=>cases h2.int;rfl
   |str y=>cases h2.str
   |exc c=>exact absurd hq zzf
   |dct a b=>exact absurd hq zzf
   |tup xs=>exact absurd hq zzf
   |lst xs=>exact absurd hq zzf
  |str x=>
   cases h1.str;cases q with
   |non=>cases h2.non
   |bl y=>cases h2.bl
   |int y=>cases h2.int
   |str y=>cases h2.str;rfl
   |exc c=>exact absurd hq zzf
   |dct a b=>exact absurd hq zzf
   |tup xs=>exact absurd hq zzf
   |lst xs=>exact absurd hq zzf
  |exc c=>exact absurd hp zzf
  |dct a b=>exact absurd hp zzf
  |tup xs=>exact absurd hp zzf
  |lst xs=>exact absurd hp zzf
 |succ n ih=>
  intro p q v hp hq h1 h2;have el:∀{xs ys:List PV} {vs:List V},xs.all (plain n)=true→ys.all (plain n)=true→ae W G xs vs→ae W G ys vs→xs=ys:=fun{xs ys vs} a1 a2 l1 l2=>
   iP (by rw [←l1.length,l2.length]) fun j x y ex ey=>by
    obtain⟨u,eu,ku⟩:=l1.getP ex
    obtain⟨y',ey',ky⟩:=l2.get eu
    rw [ey] at ey';cases ey';exact ih (List.all_eq_true.mp a1 _ (List.mem_of_getElem? ex)) (List.all_eq_true.mp a2 _ (List.mem_of_getElem? ey)) (.inl ku) (.inl ky)
  cases p with
  |exc c=>exact absurd hp zzf
  |dct a b=>exact absurd hp zzf
  |tup xs=>
   obtain⟨a,vs,rfl,sq,l⟩:=h1.tup sg
   rw [hK] at sq;cases q with
   |exc c=>exact absurd hq zzf
   |dct a b=>exact absurd hq zzf
   |non=>cases h2.non
   |bl b=>cases h2.bl
   |int b=>cases h2.int
   |str b=>cases h2.str
   |lst ys=>
    obtain⟨b,us,e,sq20,l2⟩:=h2.lst sg
    have bg:=dI hK sq20
    cases e;exact(gX I sq bg).elim
   |tup ys=>
    obtain⟨b,us,e,bg,l2⟩:=h2.tup sg
    rw [hK] at bg;cases e;cases I.tuple_inj sq bg;rw [el hp hq l l2]
  |lst xs=>
   obtain⟨a,vs,rfl,sq0,l⟩:=h1.lst sg
   have sq:=dI hK sq0
   cases q with
   |exc c=>exact absurd hq zzf
   |dct a b=>exact absurd hq zzf
   |non=>cases h2.non
   |bl b=>cases h2.bl
   |int b=>cases h2.int
   |str b=>cases h2.str
   |tup ys=>
    obtain⟨b,us,e,bg,l2⟩:=h2.tup sg
    rw [hK] at bg;cases e;exact(gX I bg sq).elim
   |lst ys=>
    obtain⟨b,us,e,sq20,l2⟩:=h2.lst sg
    have bg:=dI hK sq20
    cases e;cases I.list_inj sq bg;rw [el hp hq l l2]
  |non=>
   cases h1.non;cases q with
   |non=>cases h2.non;rfl
   |bl y=>cases h2.bl
   |int y=>cases h2.int
   |str y=>cases h2.str
   |tup ys=>obtain⟨b,us,e,_⟩:=h2.tup sg;cases e
   |lst ys=>obtain⟨b,us,e,_⟩:=h2.lst sg;cases e
   |exc c=>exact absurd hq zzf
   |dct a b=>exact absurd hq zzf
  |bl x=>
   cases h1.bl;cases q with
   |non=>cases h2.non
   |bl y=>cases h2.bl;rfl
   |int y=>cases h2.int
   |str y=>cases h2.str
   |tup ys=>obtain⟨b,us,e,_⟩:=h2.tup sg;cases e
   |lst ys=>obtain⟨b,us,e,_⟩:=h2.lst sg;cases e
   |exc c=>exact absurd hq zzf
   |dct a b=>exact absurd hq zzf
  |int x=>
   cases h1.int;cases q with
   |non=>cases h2.non
   |bl y=>cases h2.bl
   |int y=>cases h2.int;rfl
   |str y=>cases h2.str
   |tup ys=>obtain⟨b,us,e,_⟩:=h2.tup sg;cases e
   |lst ys=>obtain⟨b,us,e,_⟩:=h2.lst sg;cases e
   |exc c=>exact absurd hq zzf
   |dct a b=>exact absurd hq zzf
  |str x=>
   cases h1.str;cases q with
   |non=>cases h2.non
   |bl y=>cases h2.bl
   |int y=>cases h2.int
   |str y=>cases h2.str;rfl
   |tup ys=>obtain⟨b,us,e,_⟩:=h2.tup sg;cases e
   |lst ys=>obtain⟨b,us,e,_⟩:=h2.lst sg;cases e
   |exc c=>exact absurd hq zzf
   |dct a b=>exact absurd hq zzf
theorem nL{pins:List (Addr×Obj)}{σ:St}{s:Shared}(I:Inv X pins σ H s)(hK:W.K=X.K)(sg:ay G H){A:Around}{a:PV}{x:V}{x':Value}{ys:List PV}{us:List V}{aq:List Value}(hu:A.units+32<cLine)(ha:rZ a=true)(hy:ys.all rZ=true)(ta:Top W H0 G H a x)(rx:RelV x x')(l:ae W G ys us)(r:Vals us aq):
 ∃e:Value→Bool,(∀y∈aq,SeqAt.EqAt A s y x' (e y))∧∀(j:Nat) (y:Value) (p:PV),aq[j]?=some y→ys[j]?=some p→e y=eqv p a:=by
 classical
 have key:∀(j:Nat) (y:Value),aq[j]?=some y→∃p u,ys[j]?=some p∧us[j]?=some u∧Rep W G p u∧RelV u y∧rZ p=true:=fun j y e=>by
  have hj:=(List.getElem?_eq_some_iff.mp e).1
  have hl:=r.length
  obtain⟨u,Ag,HK⟩:=r.get (i:=j) (x:=us[j]'(by omega)) (List.getElem?_eq_getElem (by omega))
  rw [e] at Ag;cases Ag;obtain⟨p,hp,kp⟩:=l.get (List.getElem?_eq_getElem (show j<us.length by omega))
  exact⟨p,_,hp,List.getElem?_eq_getElem (by omega),kp,HK,List.all_eq_true.mp hy p (List.mem_of_getElem? hp)⟩
 refine⟨fun y=>if h:∃(j:Nat) (p:PV),aq[j]?=some y∧ys[j]?=some p then eqv h.choose_spec.choose a else false,fun y vx=>?_,fun j y p e1 e2=>?_⟩
 ·obtain⟨j,hj,e⟩:=List.getElem_of_mem vx
  have ej:aq[j]?=some y:=by rw [List.getElem?_eq_getElem hj,e]
  obtain⟨p,u,h1,h2,h3,h4,h5⟩:=key j y ej
  have hex:∃(j:Nat) (p:PV),aq[j]?=some y∧ys[j]?=some p:=⟨j,p,ej,h1⟩
  dsimp only;rw [dif_pos hex];have sp:=hex.choose_spec.choose_spec
  obtain⟨p2,u2,g1,g2,g3,g4,g5⟩:=key _ y sp.1
  have e3:hex.choose_spec.choose=p2:=Option.some.inj (sp.2.symm.trans g1)
  rw [e3];exact w9 (H0:=H0) I hK sg 9 (by omega) g5 ha (.inl g3) ta g4 rx
 ·have hex:∃(j:Nat) (p:PV),aq[j]?=some y∧ys[j]?=some p:=⟨j,p,e1,e2⟩
  dsimp only;rw [dif_pos hex];obtain⟨p1,u1,f1,f2,f3,f4,f5⟩:=key j y e1
  rw [e2] at f1;cases f1;have sp:=hex.choose_spec.choose_spec
  obtain⟨p2,u2,g1,g2,g3,g4,g5⟩:=key _ y sp.1
  have e3:hex.choose_spec.choose=p2:=Option.some.inj (sp.2.symm.trans g1)
  have e4:u1=u2:=f4.inj g4
  subst e4;rw [e3,A4 I hK sg DP g5 f5 (.inl g3:Top W H0 G H p2 u1) (.inl f3)]
theorem rh{aq:List Value}{ys:List PV}{e:Value→Bool}{f:PV→Bool}:aq.length=ys.length→(∀(j:Nat) (y:Value) (p:PV),aq[j]?=some y→ys[j]?=some p→e y=f p)→aq.any e=ys.any f:=by
 intro hl h;have:aq.map e=ys.map f:=iP (by simpa using hl) fun j x y hx hy=>by
  rw [List.getElem?_map] at hx hy;obtain⟨a,ha,rfl⟩:=Option.map_eq_some_iff.mp hx
  obtain⟨b,hb,rfl⟩:=Option.map_eq_some_iff.mp hy
  exact h j a b ha hb
 calc aq.any e=(aq.map e).any id:=by rw [List.any_map];rfl
  _=(ys.map f).any id:=by rw [this]
  _=ys.any f:=by rw [List.any_map];rfl
theorem CP(hK:W.K=X.K)(hu:X.A.units+64<cLine):eO X (compareOp .In) (qd W qm):=by
 intro pins s σ H x y v u Q I rx ry h;obtain⟨H0,G,p,q,r,sg,t1,t2,e,wq⟩:=h
 have Ag:X.A.in1.units+32<cLine:=by show X.A.units+1+32<_;omega
 unfold qm at e;split at e
 ·split at e
  ·rename_i hc;rw [Bool.and_eq_true] at hc;cases e;obtain⟨b,us,rfl,q2,l2⟩:=t2.lst sg
   cases ry;obtain⟨aq,rv,z,_⟩:=I.list (dI hK q2)
   obtain⟨e,he,hv⟩:=nL I hK sg Ag hc.1 hc.2 t1 rx l2 rv
   refine SeqAt.in_listAt e z.isList (fun y hy=>he y (by simpa using hy)) ?_
   have:=rh (by rw [←rv.length,l2.length]) hv
   rw [List.any_toArray,this];exact lE I sg wq
  ·cases e
 ·split at e
  ·rename_i hc;rw [Bool.and_eq_true] at hc;cases e;obtain⟨b,us,rfl,q2,l2⟩:=t2.tup sg
   rw [hK] at q2;cases ry;obtain⟨aq,rv,z,_⟩:=I.tuple q2
   obtain⟨e,he,hv⟩:=nL I hK sg Ag hc.1 hc.2 t1 rx l2 rv
   refine SeqAt.in_tupleAt e (show s.heap.IsTuple b aq.toArray from z) (fun y hy=>he y (by simpa using hy)) ?_
   have:=rh (by rw [←rv.length,l2.length]) hv
   rw [List.any_toArray,this];exact lE I sg wq
  ·cases e
 ·cases e
theorem Aq(hK:W.K=X.K)(hu:X.A.units+64<cLine):eO X (compareOp .NotIn) (qd W jZ):=by
 intro pins s σ H x y v u Q I rx ry h;obtain⟨H0,G,p,q,r,sg,t1,t2,e,wq⟩:=h
 have Ag:X.A.in1.units+32<cLine:=by show X.A.units+1+32<_;omega
 unfold jZ at e;split at e
 ·split at e
  ·rename_i hc;rw [Bool.and_eq_true] at hc;cases e;obtain⟨b,us,rfl,q2,l2⟩:=t2.lst sg
   cases ry;obtain⟨aq,rv,z,_⟩:=I.list (dI hK q2)
   obtain⟨e,he,hv⟩:=nL I hK sg Ag hc.1 hc.2 t1 rx l2 rv
   refine SeqAt.notIn_listAt e z.isList (fun y hy=>he y (by simpa using hy)) ?_
   have:=rh (by rw [←rv.length,l2.length]) hv
   rw [List.any_toArray,this];exact lE I sg wq
  ·cases e
 ·obtain⟨k,hk,e⟩:=Res.bind_ok e
  cases e;have hk:=eK (Res.of_ok hk)
  subst hk;obtain⟨b,rfl,hb⟩:=t1.tupI (ns:=k) sg rfl
  obtain⟨a,us,rfl,n,hd,l⟩:=t2.dct sg
  cases ry;refine yu (show X.A.units+1<cLine by omega) I (.inr ⟨_,ki k,b,hd,rfl,(by rw [nY];exact sg _ _ hb),rfl⟩) rx fun s' I'=>?_
  rw [kG,nJ k _ us n];exact lE I' sg wq
 ·cases e
theorem fV(hK:W.K=X.K)(hu:X.A.units+64<cLine):∀o:xY,eO X (compareOp (oo o)) (qd W (cO o))
 |.eq=>BJ hK hu|.ne=>Ei hK hu|.lt=>Ds hK hu|.le=>DC|.gt=>B1|.ge=>B6|.is=>Em|.isn=>Ak|.in_=>CP hK hu|.nin=>Aq hK hu
theorem rX{ps:List PV}{vs:List V}{i:Int}{p:PV}(l:ae W G ps vs)(h:oj ps i=some p):∃v,oj vs i=some v∧Rep W G p v:=by
 unfold oj at h⊢;rw [l.length];cases e:Br ps.length i with
 |none=>rw [e] at h;cases h
 |some j=>
  rw [e] at h;exact l.getP h
theorem DR(hu:X.A.units+1<cLine):EE X (fun x y H Q=>∃a au k b v,x=.ref a∧Rd H a (.dT au)∧y=.ref b∧H b=some (.tup (k.map kV))∧f6 au k=some v∧Q v H):=by
 intro value slice pins s σ H x y v u Q I rx ry h hs;obtain⟨a,au,k,b,z,rfl,hd,rfl,hb,hv,q⟩:=h
 cases rx;cases ry;obtain⟨_,_,xs,rel,dd⟩:=kI I.hok hd
 obtain⟨w',hw,gh⟩:=i9.some_of (v:=z) (o:=(atKey xs k).map (·.2)) (by rw [←hv];exact rel.val k)
 obtain⟨p,hp,hp2⟩:=Option.map_eq_some_iff.mp hw
 exact PyProof.Rows.subscriptTail_builtinR (x:=w') dd.typeIs PySem.F.slot_dict_getitem.lookup (wpAny_getItem_heap (Q:=fun r s'=>r=w'∧EP X pins σ Q r s') (tupleKind_room_in1 hu) (gD I.hok hb) dd hp ⟨hp2,by rw [hp2];exact⟨z,H,I.tok _,gh,q⟩⟩) hs
theorem Iz(hK:W.K=X.K)(hu:X.A.units+64<cLine):EE X (qd W aQ):=by
 intro value slice pins s σ H x y v u Q I rx ry h hs;obtain⟨H0,G,p,q,r,sg,t1,t2,e,wq⟩:=h
 unfold aQ at e;split at e
 ·obtain⟨a,vs,rfl,h1,l1⟩:=t1.lst sg
  obtain⟨w,hw,kw⟩:=rX l1 (Res.of_ok e)
  exact zU value slice pins s σ H _ y v u Q I rx ry ⟨a,vs,_,w,rfl,t2.int,dI hK h1,hw,wq.at sg kw⟩ hs
 ·obtain⟨a,vs,rfl,h1,l1⟩:=t1.tup sg
  rw [hK] at h1;obtain⟨w,hw,kw⟩:=rX l1 (Res.of_ok e)
  exact xH value slice pins s σ H _ y v u Q I rx ry ⟨a,vs,_,w,rfl,t2.int,h1,hw,wq.at sg kw⟩ hs
 ·split at e
  ·rename_i hl;obtain⟨c,hc,e⟩:=Res.bind_ok e
   cases e;exact DT value slice pins s σ H x y v u Q I rx ry ⟨_,_,c,t1.str,t2.int,kM hl,Res.of_ok hc,wq.at sg .s⟩ hs
  ·cases e
 ·obtain⟨k,hk,e2⟩:=Res.bind_ok e
  have hk:=eK (Res.of_ok hk)
  subst hk;obtain⟨b,rfl,hb⟩:=t2.tupI (ns:=k) sg rfl
  obtain⟨a,us,rfl,n,hd,l⟩:=t1.dct sg
  obtain⟨w,hw,kw⟩:=nZ l (Res.of_ok e2)
  exact DR (by omega) value slice pins s σ H _ _ v u Q I rx ry ⟨a,_,ki k,b,w,rfl,hd,rfl,(by rw [nY];exact sg _ _ hb),(by rw [kG];exact hw),wq.at sg kw⟩ hs
 ·cases e
theorem zT{ps:List PV}{vs:List V}(lo hi:Option Int)(l:ae W G ps vs):ae W G (B8 ps lo hi) (u4 vs lo hi):=by
 unfold B8 u4;rw [l.length];exact(l.drop _).take _
theorem IZ(hK:W.K=X.K):L2.SlR X (fun x lo hi H Q=>∃H0 G p r,ay G H∧Top W H0 G H p x∧ic p lo hi=.ok r∧cL W G H r Q):=by
 intro pins s σ H x v vl vu lo hi sl Q I rx hs pl pu h;obtain⟨H0,G,p,r,sg,t1,e,wq⟩:=h
 unfold ic at e;split at e
 ·cases e;obtain⟨a,vs,rfl,h1,l1⟩:=t1.lst sg
  exact AY pins s σ H _ v vl vu _ _ sl Q I rx hs pl pu ⟨a,vs,rfl,dI hK h1,fun p hp=>wq.lst sg (zT _ _ l1) hp⟩
 ·cases e
end
end Ci
namespace Ci
open PySem L2
section
variable{X:Cx}{W:Wd}
def wU(W:Wd)(f:List PV→Res PV):List V→Hp→VK→Prop:=fun vs H Q=>∃H0 G ps r,ay G H∧Paired (fun v p=>Top W H0 G H p v) vs ps∧f ps=.ok r∧cL W G H r Q
theorem eY{H0 G H:Hp}{vs:List V}{p:PV}(h:Paired (fun v p=>Top W H0 G H p v) vs [p]):∃v,vs=[v]∧Top W H0 G H p v:=by
 cases h with
 |cons h t=>cases t;exact⟨_,rfl,h⟩
theorem EL{H0 G H:Hp}{vs:List V}{p q:PV}(h:Paired (fun v p=>Top W H0 G H p v) vs [p,q]):∃v u,vs=[v,u]∧Top W H0 G H p v∧Top W H0 G H q u:=by
 cases h with
 |cons h t=>
  cases t with
  |cons h2 t2=>cases t2;exact⟨_,_,rfl,h,h2⟩
theorem uQ(hK:W.K=X.K):b9 X (.builtin "len") (wU W rk):=by
 intro pins s σ H xs us Q I r h;obtain⟨H0,G,ps,rr,sg,tp,e,wq⟩:=h
 unfold rk at e;split at e
 ·cases e;obtain⟨v,rfl,t⟩:=eY tp
  obtain⟨a,vs,rfl,h1,l1⟩:=t.lst sg
  exact ik pins s σ H _ us Q I r ⟨a,vs,rfl,.inl (dI hK h1),by rw [l1.length];exact wq.at sg .i⟩
 ·cases e;obtain⟨v,rfl,t⟩:=eY tp
  obtain⟨a,vs,rfl,h1,l1⟩:=t.tup sg
  rw [hK] at h1;exact ik pins s σ H _ us Q I r ⟨a,vs,rfl,.inr h1,by rw [l1.length];exact wq.at sg .i⟩
 ·split at e
  ·rename_i hl;cases e;obtain⟨v,rfl,t⟩:=eY tp
   exact nB pins s σ H _ us Q I r ⟨_,by rw [t.str],kM hl,wq.at sg .i⟩
  ·cases e
 ·cases e;obtain⟨v,rfl,t⟩:=eY tp
  obtain⟨a,us',rfl,n,hd,l⟩:=t.dct sg
  obtain⟨u,rfl,ru⟩:=vals1 r
  cases ru;exact Dd I hd fun t s' I'=>⟨.int _,H,I',⟨t,rfl⟩,by rw [eN n];exact wq.at sg .i⟩
 ·cases e
theorem uP:b9 X (.builtin "abs") (wU W xg):=by
 intro pins s σ H xs us Q I r h;obtain⟨H0,G,ps,rr,sg,tp,e,wq⟩:=h
 unfold xg at e;split at e
 ·cases e;obtain⟨v,rfl,t⟩:=eY tp
  exact vH pins s σ H _ us Q I r ⟨_,by rw [t.int],wq.at sg .i⟩
 ·cases e
theorem vj(hc:X.calm=true):b9 X (.builtin "max") (wU W wy):=by
 intro pins s σ H xs us Q I r h;obtain⟨H0,G,ps,rr,sg,tp,e,wq⟩:=h
 unfold wy at e;split at e
 ·cases e;obtain⟨v,u,rfl,t,t2⟩:=EL tp
  exact ua hc pins s σ H _ us Q I r ⟨_,_,by rw [t.int,t2.int],wq.at sg .i⟩
 ·cases e
theorem vc:b9 X (.type "int") (wU W vO):=by
 intro pins s σ H xs us Q I r h;obtain⟨H0,G,ps,rr,sg,tp,e,wq⟩:=h
 unfold vO at e;split at e
 ·split at e
  ·rename_i hl;obtain⟨n,hn,e⟩:=Res.bind_ok e
   cases e;obtain⟨v,rfl,t⟩:=eY tp
   exact ni pins s σ H _ us Q I r ⟨_,n,by rw [t.str],Res.of_ok hn,hl,wq.at sg .i⟩
  ·cases e
 ·cases e
theorem ud:b9 X (.type "str") (wU W wX):=by
 intro pins s σ H xs us Q I r h;obtain⟨H0,G,ps,rr,sg,tp,e,wq⟩:=h
 unfold wX at e;split at e
 ·split at e
  ·rename_i hl;cases e;obtain⟨v,rfl,t⟩:=eY tp
   exact nU pins s σ H _ us Q I r ⟨_,by rw [t.int],hl,wq.at sg .s⟩
  ·cases e
 ·cases e
theorem tP(hc:X.calm=true)(hK:W.K=X.K):b9 X (.builtin "all") (wU W xX):=by
 intro pins s σ H xs us Q I r h;obtain⟨H0,G,ps,rr,sg,tp,e,wq⟩:=h
 unfold xX at e;split at e
 ·obtain⟨bs,hb,e⟩:=Res.bind_ok e
  cases e;obtain⟨v,rfl,t⟩:=eY tp
  obtain⟨a,vs,rfl,h1,l1⟩:=t.lst sg
  cases i4 l1 (Res.of_ok hb);exact xG hc pins s σ H _ us Q I r ⟨a,bs,rfl,dI hK h1,wq.at sg .b⟩
 ·cases e
theorem AE{ns:List Int}(h:(ns.all fun n=>decide (-(2^32)<n)&&decide (n<2^32))=true)(hl:ns.length<fH):PyProof.Rows.SumFits ns:=by
 have hb:∀n∈ns, -(2^32)<n∧n<2^32:=fun n hn=>by
  have:=List.all_eq_true.mp h n hn
  simpa using this
 have hs:∀l:List Int,(∀n∈l, -(2^32)<n∧n<2^32)→ -(2^32*(l.length:Int))≤l.sum∧l.sum≤2^32*(l.length:Int):=fun l=>by
  induction l with
  |nil=>intro _;simp
  |cons a l ih=>
   intro k;have h1:=k a (by simp)
   have h2:=ih fun n hn=>k n (by simp [hn])
   rw [List.sum_cons,List.length_cons];omega
 intro j hj;have e:ns.getD j 0=ns[j]:=by rw [List.getD_eq_getElem?_getD,List.getElem?_eq_getElem hj];rfl
 have h1:=hb ns[j] (List.getElem_mem hj)
 have h2:=hs (ns.take (j+1)) fun n hn=>hb n (List.mem_of_mem_take hn)
 have h3:(ns.take (j+1)).length≤ns.length:=by rw [List.length_take];omega
 have h4:ns.length<1000000:=hl
 rw [e];unfold InLong
 constructor<;>omega
theorem ug(hc:X.calm=true)(hK:W.K=X.K):b9 X (.builtin "sum") (wU W vG):=by
 intro pins s σ H xs us Q I r h;obtain⟨H0,G,ps,rr,sg,tp,e,wq⟩:=h
 unfold vG at e;split at e
 ·obtain⟨ns,hb,e⟩:=Res.bind_ok e
  split at e
  ·rename_i hcond;rw [Bool.and_eq_true] at hcond;cases e;obtain⟨v,rfl,t⟩:=eY tp
   obtain⟨a,vs,rfl,h1,l1⟩:=t.lst sg
   cases eM l1 (Res.of_ok hb);exact uZ hc pins s σ H _ us Q I r ⟨a,ns,rfl,dI hK h1,AE hcond.1 (of_decide_eq_true hcond.2),wq.at sg .i⟩
  ·cases e
 ·cases e
def qx:Ty→String
 |.int=>"int"|.bool=>"bool"|.tuple=>"tuple"|.list=>"list"
theorem FD{K:PySem.W.Frag}(t:Ty):Cw.kit K "NoneType" (qx t) false∧(∀b,Cw.kit K "bool" (qx t) (aG t (.bl b)))∧(∀i,Cw.kit K "int" (qx t) (aG t (.int i)))∧(∀z,Cw.kit K "str" (qx t) (aG t (.str z)))∧(∀z,Cw.kit K "tuple" (qx t) (aG t (.tup z)))∧(∀z,Cw.kit K "list" (qx t) (aG t (.lst z))):=by
 cases t
 all_goals refine⟨?_,fun b=>?_,fun b=>?_,fun b=>?_,fun b=>?_,fun b=>?_⟩
 all_goals first
  |exact Cw.kit_same _
  |exact Cw.kit_of (b:=false) (by decide+kernel) (by decide+kernel) (by decide+kernel)
  |exact Cw.kit_of (b:=true) (by decide+kernel) (by decide+kernel) (by decide+kernel)
theorem wO(hK:W.K=X.K)(t:Ty):b9 X (.builtin "isinstance") (fun xs H Q=>∃v H0 G p r,xs=[v,.ty (qx t)]∧ay G H∧Top W H0 G H p v∧aJ t p=.ok r∧cL W G H r Q):=by
 intro pins s σ H xs us Q I rr h;obtain⟨v,H0,G,p,r,rfl,sg,tp,e,wq⟩:=h
 obtain⟨u,u2,rfl,ru,ru2⟩:=Vals.two rr
 cases ru2;obtain⟨k1,k2,k3,k4,k5,k6⟩:=FD (K:=X.K) t
 cases p with
 |exc c=>cases e
 |dct a b=>cases e
 |non=>cases e;cases tp.non;cases ru;cases t<;>exact PySem.W.kia_one PySem.W.kitx_none I.kIn True.intro k1 (fun z=>nomatch z) fun tk=>⟨.bl _,H,I.tok tk,rfl,wq.at sg .b⟩
 |bl b=>cases e;cases tp.bl;cases ru;exact PySem.W.kia_one PySem.W.kitx_bool I.kIn True.intro (k2 b) (fun z=>nomatch z) fun tk=>⟨.bl _,H,I.tok tk,rfl,wq.at sg .b⟩
 |int b=>cases e;cases tp.int;obtain⟨t1,rfl⟩:=ru;exact PySem.W.kia_one PySem.W.kitx_int I.kIn True.intro (k3 b) (fun z=>nomatch z) fun tk=>⟨.bl _,H,I.tok tk,rfl,wq.at sg .b⟩
 |str b=>cases e;cases tp.str;obtain⟨t1,rfl⟩:=ru;exact PySem.W.kia_one PySem.W.kitx_str I.kIn True.intro (k4 b) (fun z=>nomatch z) fun tk=>⟨.bl _,H,I.tok tk,rfl,wq.at sg .b⟩
 |tup b=>
  cases e;obtain⟨a,vs,rfl,h1,l1⟩:=tp.tup sg
  rw [hK] at h1;cases ru;obtain⟨aq,_,⟨o,e1,e2,_⟩,_⟩:=I.tuple h1
  exact PySem.W.kia_one PySem.W.kitx_tuple I.kIn ⟨o,e1,e2⟩ (k5 b) (fun z=>nomatch z) fun tk=>⟨.bl _,H,I.tok tk,rfl,wq.at sg .b⟩
 |lst b=>
  cases e;obtain⟨a,vs,rfl,h1,l1⟩:=tp.lst sg
  cases ru;obtain⟨aq,n,_,_,_,e1⟩:=AR hK I h1
  exact PySem.W.kia_one PySem.W.kitx_list I.kIn ⟨_,e1,rfl⟩ (k6 b) (fun z=>nomatch z) fun tk=>⟨.bl _,H,I.tok tk,rfl,wq.at sg .b⟩
end
end Ci
namespace Ci
open PySem L2
section
variable{W:Wd}{X:Cx}{G H:Hp}
theorem jh{k:List Int}{v:V}(h:Rep W G (ah k) v):∃b,v=.ref b∧G b=some (.tup (k.map V.int)):=Top.tupI (H0:=G) (ay.refl G) rfl (.inl h)
theorem sC{K:PySem.W.Frag}(sg:ay G H):∀{xs:List PV} {nss:List (List Int)} {vs:List V},se xs=some nss→ae W G xs vs→nss.all (fun k=>!k.isEmpty)=true→mR K H vs nss
 |[],_,_,e,l,_=>by cases e;simp only [ae] at l;subst l;exact .nil
 |x::xs,nss,vs,e,l,ne=>by
  unfold se at e;obtain⟨k,hk,e⟩:=Option.bind_eq_some_iff.mp e
  obtain⟨r,hr,rfl⟩:=Option.map_eq_some_iff.mp e
  obtain⟨v,vr,rfl,h1,h2⟩:=l.uncons
  rw [List.all_cons,Bool.and_eq_true] at ne;rw [eK hk] at h1;obtain⟨b,rfl,hb⟩:=jh h1
  exact .cons ⟨b,rfl,.inl (.inl (sg _ _ hb)),fun z=>by rw [z] at ne;exact absurd ne.1 (by decide)⟩ (sC sg hr h2 ne.2)
theorem rP{ps:List PV}{vs:List V}{nss:List (List Int)}(l:ae W G ps vs):ae W G (pg .non ps nss) (pg V.non vs nss):=by
 unfold pg;rw [l.length];split
 ·exact l
 ·have go:∀ix:List Nat,ae W G (ix.map fun i=>ps.getD i .non) (ix.map fun i=>vs.getD i V.non):=by
   intro ix
   induction ix with
   |nil=>exact .nil
   |cons i ix ih=>
    refine .cons ?_ ih;dsimp only
    by_cases hi:i<ps.length
    ·obtain⟨v,hv,rv⟩:=l.getP (List.getElem?_eq_getElem hi)
     have e1:ps.getD i .non=ps[i]:=by simp [hi]
     have e2:vs.getD i V.non=v:=by simp [hv]
     rw [e1,e2];exact rv
    ·have e1:ps.getD i .non=.non:=by simp [Nat.le_of_not_lt hi]
     have e2:vs.getD i V.non=.non:=by simp [Nat.le_of_not_lt (l.length▸hi)]
     rw [e1,e2];exact .n
  exact go _
theorem fU:∀{vs:List V} {nss:List (List Int)} {G:Hp},ay G H→Paired (fun v ns=>∃b,v=V.ref b∧H b=some (.tup (ns.map V.int))) vs nss→∃G',aE W G H G' H∧ae W G' (nss.map ah) vs
 |_,_,G,sg,.nil=>⟨G,.refl sg,.nil⟩
 |_,_,G,sg,.cons (b:=ns) h t=>by
  obtain⟨b,rfl,hb⟩:=h
  have g1:=aE.adopt (W:=W) sg hb
  obtain⟨G2,g2,l⟩:=fU g1.sub t
  refine⟨G2,g1.trans g2,.cons (Rep.same g2.g _ ?_) l⟩;refine .t (.inl ag) ?_;have go:∀ns:List Int,ae W (upd G b (.tup (ns.map V.int))) (ns.map .int) (ns.map V.int)∧True:=fun _=>⟨by
   rename_i Cd;have all:∀(G':Hp) (l:List Int),ae W G' (l.map .int) (l.map V.int):=fun G' l=>by
    induction l with
    |nil=>exact .nil
    |cons x l ih=>exact .cons .i ih
   exact all _ _,trivial⟩
  exact(go ns).1
theorem mO(hK:W.K=X.K)(hc:X.calm=true):b9 X (.builtin "sorted") (wU W g7):=by
 intro pins s σ H xs us Q I r h;obtain⟨H0,G,ps,rr,sg,tp,e,wq⟩:=h
 unfold g7 at e;split at e
 ·obtain⟨nss,hn,e⟩:=Res.bind_ok e
  split at e
  ·rename_i hb;rw [Bool.and_eq_true,decide_eq_true_eq] at hb;cases e;obtain⟨v,rfl,t⟩:=eY tp
   obtain⟨a,vs,rfl,h1,l1⟩:=t.lst sg
   exact nW pins s σ H _ us Q I r ⟨a,vs,nss,rfl,dI hK h1,sC sg (Res.of_ok hn) l1 hb.2,by rw [l1.length];exact hb.1,fun p hp=>wq _ _ _ (.new sg hp) (.l (.inl (.inl ag)) (ae.same (bh (sg.free hp)) _ (rP l1)))⟩
  ·cases e
 ·split at e
  ·rename_i ks om hb;rw [Bool.and_eq_true,decide_eq_true_eq] at hb;cases e;obtain⟨v,rfl,t⟩:=eY tp
   obtain⟨a,us',rfl,n,hd,l⟩:=t.dct sg
   refine nO hc pins s σ H _ us Q I r ⟨a,_,ks,rfl,hd,m7 n,fun ns hm z=>?_,by rw [eN n];exact hb.1,fun p vs hp pv=>?_⟩
   ·have:=List.all_eq_true.mp hb.2 ns hm
    rw [z] at this;exact absurd this (by decide)
   ·obtain⟨G1,g1,l1⟩:=fU (W:=W) sg pv
    exact wq _ _ _ (g1.trans (.new g1.sub hp)) (.l (.inl (.inl ag)) (ae.same (bh (g1.sub.free hp)) _ (rP l1)))
  ·cases e
 ·cases e
theorem yd{K:PySem.W.Frag}(hK:W.K=K)(sg:ay G H):∀{xs:List PV} {ps:List (List Int×PV)} {vs:List V},zd xs=some ps→ae W G xs vs→∃us,ae W G (ps.map (·.2)) us∧iX K H vs ((ps.map fun p=>ki p.1).zip us)
 |[],_,_,e,l=>by cases e;simp only [ae] at l;subst l;exact⟨[],.nil,.nil⟩
 |x::xs,ps,vs,e,l=>by
  obtain⟨v,vr,rfl,h1,h2⟩:=l.uncons
  unfold zd at e;split at e
  ·rename_i heq;cases heq
  ·rename_i heq;cases heq;obtain⟨k,hk,e⟩:=Option.bind_eq_some_iff.mp e
   obtain⟨r,hr,rfl⟩:=Option.map_eq_some_iff.mp e
   obtain⟨us,l2,p2⟩:=yd hK sg hr h2
   simp only [Rep] at h1;obtain⟨q,ws,rfl,tq,lq⟩:=h1
   obtain⟨w1,wr,rfl,k1,lq⟩:=lq.uncons
   obtain⟨w2,wr2,rfl,k2,lq⟩:=lq.uncons
   simp only [ae] at lq;subst lq;rw [eK hk] at k1;obtain⟨b,rfl,hb⟩:=jh k1
   refine⟨w2::us,.cons k2 l2,.cons ⟨q,b,rfl,?_,by rw [nY];exact sg _ _ hb⟩ p2⟩;rw [←hK];exact ay.tup sg tq.sq
  ·cases e
theorem lP:∀(ps:List (List Int×PV)) {us:List V} {ks:List (List Int)} {qs:List PV} {ws:List V},ae W G (ps.map (·.2)) us→ks.length=ws.length→ae W G qs ws→∃zs,(gu ps ks qs).1.length=zs.length∧ae W G (gu ps ks qs).2 zs∧gB (kz ks ws) ((ps.map fun p=>ki p.1).zip us)=kz (gu ps ks qs).1 zs
 |[],us,ks,qs,ws,_,n,l=>⟨ws,n,l,rfl⟩
 |p::ps,us,ks,qs,ws,lu,n,l=>by
  obtain⟨u,ur,rfl,h1,h2⟩:=lu.uncons
  obtain⟨zs,z1,z2,z3⟩:=lP ps h2 (j4 n p.1 u) (mQ (ks:=ks) (k:=p.1) l h1)
  refine⟨zs,z1,z2,?_⟩;show gB (putK (kz ks ws) (ki p.1) u) _=_
  rw [rC n];exact z3
theorem pN(hK:W.K=X.K)(hc:X.calm=true)(hu:X.A.units+64<cLine):b9 X (.type "dict") (wU W oz):=by
 intro pins s σ H xs us Q I r h;obtain⟨H0,G,ps,rr,sg,tp,e,wq⟩:=h
 unfold oz at e;split at e
 ·obtain⟨ps,hp,e⟩:=Res.bind_ok e
  cases e;obtain⟨v,rfl,t⟩:=eY tp
  obtain⟨a,vs,rfl,h1,l1⟩:=t.lst sg
  obtain⟨ws,lw,pw⟩:=yd hK sg (Res.of_ok hp) l1
  obtain⟨zs,z1,z2,z3⟩:=lP ps (ks:=[]) (qs:=[]) (ws:=[]) lw rfl .nil
  refine qG hc (by omega) pins s σ H _ us Q I r ⟨a,vs,_,rfl,dI hK h1,pw,fun p o hn=>?_⟩
  have Ob:gB [] ((ps.map fun p=>ki p.1).zip ws)=kz (gu ps [] []).1 zs:=z3
  rw [Ob];refine wq _ _ _ (.new sg hn) ?_;simp only [Rep];exact⟨p,o,zs,rfl,z1,ag,ae.same (bh (sg.free hn)) _ z2⟩
 ·cases e
end
end Ci
namespace L2
open PySem PySem.Spec PyProof.Rows
section
variable{X:Cx}{scope:Scope}{xs ys:List Str}{is:List Nat}
theorem nu{i₀:Nat}{x₀:Str}{pos' ff:Pos}{elt tg iter B3:Expr}{pos:Pos}{wi:TI}{g:TG}{te:TE}{tt:TT}(hN₀:X.N.Nodup)(hi₀:X.N[i₀]?=some x₀)(hx₀:Loc X.env.scope x₀)(hc:X.calm=true)(S:dX X scope xs ys is)(hi:PI X tg iter wi)
 (hg:∀fp s1 H1 C,PG (bQ X (xs++ys) scope (bz X.env ys) fp s1 H1 C) tg g) (ht:∀fp s1 H1 C,PT (bQ X (xs++ys) scope (bz X.env ys) fp s1 H1 C) B3 tt) (he:∀fp s1 H1 C,PE (bQ X (xs++ys) scope (bz X.env ys) fp s1 H1 C) elt te)
 (xj:swapsWith (.ListComp elt [⟨tg,iter,[B3],0⟩] scope pos) (some (.Name x₀ pos')) ff.line X.env=pure true:=by rfl)
 (hs:∀x,foldedSetIterable iter X.env x=pure x:=by intro _;rfl) (hf₀:X.fn x₀=true∨X.env.scope.names.lookup x₀=some .local:=by first|exact .inl rfl|exact .inr rfl|assumption):
 PS X (.Assign [.Name x₀ pos'] (.ListComp elt [⟨tg,iter,[B3],0⟩] scope pos) ff) (zt (jf wi xs.length g tt te is) (gb i₀)):=by
 intro pins s σ H D₀ I h;rw [exec_Assign_Name_used _ _ _ _ xj];refine wpAny_bind (wpAny_standAt (wpAny_bind ?_));show wpAny _ X.A (do let _←comprehension (.ListComp elt [⟨tg,iter,[B3],0⟩] scope pos) scope X.env _ (newList []) false (eval iter X.env) (some (assign (.Name x₀ pos') X.env))) _ _ s;refine wpAny_bind (wpAny_mono (fX (QQ:=fun _ s'=>∃σ2 H2,Inv X pins σ2 H2 s'∧D₀.nx σ2 H2) (Q:=fun v H4=>gb i₀ v σ H4 D₀.nx) hc S hi hg (fun fp s1 H1 C=>rN (ht fp s1 H1 C)) he hs I h fun D C s4 H4 m I5 hn ⟨g0,g1,_,g3,g4,g5⟩ q=>?_) (fun _ s' hq=>wpAny_pure (wpAny_pure hq)) fun _ _ e=>e)
 refine wpAny_assign_Name (iC I5 hN₀ hi₀ hx₀ (show RelV (.ref D) (.ref D) from rfl) (fun s6 I6 ⟨a6,sb6,ha6⟩=>?_) hf₀);have De:C≠a6:=by
  rcases ha6 with z|z
  ·rw [z];exact g1
  ·exact fun z2=>g4 _ _ z z2.symm
 exact⟨m,hn.sameBut sb6 De,fun h' qS=>⟨_,_,I6.turned (t':=s6.toks) (it:=C) (fun b o hb e=>qS.extBut b o hb e) g0 g1 g3 g4 g5,q⟩⟩
end
end L2
namespace L2
open PySem PySem.Spec PyProof.Rows
open PySem.AutoSeq1 (wpAny_loadPart')
section
variable{prog:Program}{w:World}{A:Around}{E:Value→Shared→Prop}{s:Shared}{jt tu:Addr}{i:Nat}{aq:Array Value}{Q:Value→Shared→Prop}
theorem jb{x:Value}(ih:s.heap.IsTupleIter jt tu i)(th:s.heap.IsTuple tu aq)(hx:aq[i]?=some x)
 (k:∀g,g.IsTupleIter jt tu (i+1)→Heap.SameBut jt s.heap g→Q x {s with heap:=g}):wpAny (model prog w) A (Builtin.SmallTypes.nextOf (.ref jt)) Q E s:=by
 obtain⟨ob,e1,e2,e3⟩:=id ih
 obtain⟨ot,f1,_,nn,f2⟩:=th
 unfold Builtin.SmallTypes.nextOf;refine wpAny_bind (wpAny_callSpecial?_slot (name:=Str.ofString "__next__") ih.typeIs F.slot_tuple_iterator_next (wpAny_call_entry F.slot_tuple_iterator_next ih.typeIs F.entry_tuple_iterator_next ?_ (F.args_tuple_iterator_next_1 _)));show wpAny _ _ (field (.ref jt) 0>>=_) _ _ s;refine wpAny_bind (wpAny_field e1 e3 (x:=.ref tu) rfl ?_);show wpAny _ _ (if(Value.ref tu==Value.none)=true then _ else _) _ _ s;rw [if_neg (show¬((Value.ref tu==Value.none)=true) from zzf)];show wpAny _ _ (field (.ref jt) 1>>=_) _ _ s;refine wpAny_bind (wpAny_field e1 e3 (x:=.int i 0) rfl ?_);show wpAny _ _ (seqItems? (.ref tu)>>=_) _ _ s;refine wpAny_bind (wpAny_seqItems f1 f2 ?_);simp only [Int.toNat_natCast,hx];refine wpAny_bind (wpAny_setField e1 e3 (by simp) (wpAny_pure ⟨x,rfl,wpAny_pure (k _ ?_ (Heap.SameBut.update ..))⟩));exact⟨_,Heap.get?_update_self _ e1 (Obj.isFreed_of_fields (Obj.data_mapFields e3 _)),(Obj.cls_mapFields ..).trans e2,by rw [Obj.data_mapFields e3];simp [rawInt]⟩
theorem kQ(hh:A.handled=none)(ih:s.heap.IsTupleIter jt tu i)(th:s.heap.IsTuple tu aq)(hx:aq[i]?=none)
 (k:∀g e,Heap.ExtBut jt s.heap g→(∃o,g.get? e=some o∧o.cls=.type "StopIteration")→E (.ref e) {s with heap:=g}):wpAny (model prog w) A (Builtin.SmallTypes.nextOf (.ref jt)) Q E s:=by
 obtain⟨ob,e1,e2,e3⟩:=id ih
 obtain⟨ot,f1,_,nn,f2⟩:=th
 unfold Builtin.SmallTypes.nextOf;refine wpAny_bind (wpAny_callSpecial?_slot (name:=Str.ofString "__next__") ih.typeIs F.slot_tuple_iterator_next (wpAny_call_entry F.slot_tuple_iterator_next ih.typeIs F.entry_tuple_iterator_next ?_ (F.args_tuple_iterator_next_1 _)));show wpAny _ _ (field (.ref jt) 0>>=_) _ _ s;refine wpAny_bind (wpAny_field e1 e3 (x:=.ref tu) rfl ?_);show wpAny _ _ (if(Value.ref tu==Value.none)=true then _ else _) _ _ s;rw [if_neg (show¬((Value.ref tu==Value.none)=true) from zzf)];show wpAny _ _ (field (.ref jt) 1>>=_) _ _ s;refine wpAny_bind (wpAny_field e1 e3 (x:=.int i 0) rfl ?_);show wpAny _ _ (seqItems? (.ref tu)>>=_) _ _ s;refine wpAny_bind (wpAny_seqItems f1 f2 ?_);simp only [Int.toNat_natCast,hx];refine wpAny_bind (wpAny_rule (wpAny_bind (wpAny_setField e1 e3 (by simp) ?_)));show wpAny _ _ (newExc (.type "StopIteration") []>>=_) _ _ _;refine wpAny_bind ?_;simp only [newExc,newTuple];refine wpAny_bind (wpAny_newObj_type ?_ (by size_fits));refine wpAny_bind (m:=firstArgMember _ _) (wpAny_of_eq (a:=Value.none) (by first|rfl|(simp only [firstArgMember];rfl)) ?_);refine wpAny_newObj_type ?_ (by size_fits);simp only [raiseNew];refine wpAny_bind (wpAny_handled ?_)
 first|rw [show A.in1.handled=none from hh]|rw [hh]
 refine wpAny_bind (wpAny_pure (wpAny_throw ?_));exact k _ _ (((Heap.SameBut.update ..).extBut.push _).push _) ⟨_,Heap.get?_push_size _ rfl,rfl⟩
end
theorem lH{prog:Program}{w:World}{A:Around}(hh:A.handled=none)(jt tu:Addr)(fc:tu≠jt)(aq:Array Value):
 Draws prog w A jt [jt,tu] aq.size (fun i v=>aq[i]?=some v) (fun i h=>h.IsTupleIter jt tu i∧h.IsTuple tu aq) where
 live:=fun _ _ st=>let⟨o,ho,_⟩:=st.1;⟨o,ho⟩
 frame:=fun _ _ _ st hk=>⟨st.1.at fun o e=>hk jt (by simp) o e,by obtain⟨o,e,r⟩:=st.2;exact⟨o,hk tu (by simp) o e,r⟩⟩
 item:=fun i s Q E hi st hQ=>jb st.1 st.2 (x:=aq[i]) (by simp [hi]) fun g ig sb=>hQ _ g s.toks (by simp [hi]) ⟨ig,by obtain⟨o,e,r⟩:=st.2;exact⟨o,sb.extBut _ _ fc e,r⟩⟩ sb
 done:=fun s Q E st hE=>kQ hh st.1 st.2 (by simp) hE
theorem va(l:Addr)(items:Array Value)(n:Nat)(dct:Option Addr)(sl:Array (Option Value)):
 Meets (Builtin.«enumerate.__new__» ⟨[.type "enumerate",.ref l],[]⟩) (fun _ R s=>s.heap.get? l=some {cls:=.type "tuple",dict:=dct,data:=.seq items n,slots:=sl}∧
  R (.ok (.ret (.ref (s.heap.push {cls:=.type "tuple_iterator",data:=.fields #[.ref l,.int 0 0]}).objs.size)))
   {s with heap:=(s.heap.push {cls:=.type "tuple_iterator",data:=.fields #[.ref l,.int 0 0]}).push {cls:=.type "enumerate",data:=.fields #[.none,.bool false,.ref s.heap.objs.size,rawInt 0,.none,.none]}}):=
 .of_wp fun prog w A R s h=>by
  obtain⟨hp,g,d,tk,os⟩:=s
  obtain⟨hl,h⟩:=h
  have NO:=sub_enumerate
  have hL:Heap.IsTuple (Shared.heap ⟨hp,g,d,tk,os⟩) l items:=⟨_,hl,rfl,n,rfl⟩
  wp_walk using wpAny_loadPart' hl
  refine wpAny_stack_any fun st=>wpAny_pure ?_
  split
  ·rename_i c _ _ _ _ _;cases(c==Value.type "enumerate")<;>(wp_walk using wpAny_loadPart' hl,wpAny_pyIter_tuple hL;exact⟨_,rfl,h⟩)
  ·wp_walk using wpAny_loadPart' hl,wpAny_pyIter_tuple hL
   exact⟨_,rfl,h⟩
end L2
namespace L2
open PySem PySem.Spec PyProof.Rows
theorem aK{h:Heap}{a b:Addr}{o1 o2:Obj}(h1:h.get? a=some o1)(h2:h.get? b=some o2)(hc:o1.cls≠o2.cls):a≠b:=fun z=>by
 subst z;rw [h1] at h2;cases h2;exact hc rfl
theorem dZ(z:Str):strIterType z="str_ascii_iterator"∨strIterType z="str_iterator":=by
 unfold strIterType;split
 ·exact .inl rfl
 ·exact .inr rfl
theorem lZ{X:Cx}{pins:List (Addr×Obj)}{σ:St}{H:Hp}{s:Shared}{E:Value→Shared→Prop}{e it:Addr}{LI:List Addr}{n i:Nat}{Pv:Nat→Value→Prop}{Sv:Nat→Heap→Prop}{old:Value}{Gx:V→Prop}{elts:List Expr}{x1:Nat}{pos:Pos}
 (I:Inv X pins σ H s) (D:Draws X.prog X.w X.A.in1 it LI n Pv Sv) (he:IsEnum s.heap e it i old) (dB:Sv i s.heap) (bW:i<n) (fc:e≠it) (Kw:e∉LI) (hf:∀b∈[e,it],du X pins H b) (hP:∀u,Pv i u→∃x,RelV x u∧Gx x):
 wpAny (model X.prog X.w) X.A (pyNext (.ref e)) (fun r s1=>∃u,r=some u∧wpAny (model X.prog X.w) X.A (letOwnedTupleGo (.Tuple elts x1 pos) (.ref e) u) (fun _ s2=>∃x p,u=.ref p∧Gx x∧H p=none∧e≠p∧it≠p∧
  Inv X pins σ (upd H p (.tup [.int i,x])) s2∧(∃Ii,IsEnum s2.heap e it ((i:Int)+1) Ii)∧Sv (i+1) s2.heap) E s1) E s:=by
 refine wpAny_pyNext_enum_itemD D he dB bW fc Kw fun u h' tk pu ho iw ht hz kk=>?_
 obtain⟨x,rx,gx⟩:=hP u pu
 obtain⟨f0,f1,f2,f3,f4,f5⟩:=hf e (by simp)
 obtain⟨g0,g1,g2,g3,g4,g5⟩:=hf it (by simp)
 have pU:H s.heap.objs.size=none:=I.hok.fresh (Nat.le_refl _)
 obtain⟨oi,hoi⟩:=D.live _ _ dB
 have LW:e≠s.heap.objs.size:=Nat.ne_of_lt (Heap.lt_size he)
 have NZ:it≠s.heap.objs.size:=Nat.ne_of_lt (Heap.lt_size hoi)
 have mq:∀b o,H b=some o→b≠e∧b≠it∧b≠s.heap.objs.size:=fun b o q=>⟨(fun z=>(by rw [z,f0] at q;cases q)),(fun z=>(by rw [z,g0] at q;cases q)),Nat.ne_of_lt (I.hok.lt q)⟩
 have I1:Inv X pins σ (upd H s.heap.objs.size (.tup [.int i,x])) {s with heap:=h',toks:=tk+1}:=by
  refine I.step (g':=s.gens) (d':=s.drawn) (ch:=[e,it]) (fun b hb=>?_) (fun b o _ _ hc q _=>kk b o (fun z=>hc (by simp [z])) (fun z=>hc (by simp [z])) q)
   (fun b o _ _ hc q _=>⟨o.slots,kk b o (fun z=>hc (by simp [z])) (fun z=>hc (by simp [z])) q⟩) (fun b o _ q nb=>by rw [aa (Nat.ne_of_lt (Heap.lt_size q))];exact nb)
   (fun b o hc q=>⟨o,kk b o (fun z=>hc (by simp [z])) (fun z=>hc (by simp [z])) q⟩) (fun b xs q=>by rw [aa (mq b _ q).2.2];exact q) (fun b o u q=>by rw [aa (mq b _ q).2.2];exact q)
   (fun b ps q=>⟨#[],by rw [aa (mq b _ q).2.2,q];simp⟩) (fun m hm=>?_) (fun b o q=>?_) I.bare
  ·rcases List.mem_cons.mp hb with z|z
   ·subst z;exact⟨f3,f1,f4,f5⟩
   ·rw [List.mem_singleton.mp z];exact⟨g3,g1,g4,g5⟩
  ·obtain⟨o,es,ep,q,r⟩:=hm
   exact⟨o,es,ep,kk _ o (Ne.symm f1) (Ne.symm g1) q,r⟩
  ·by_cases hb:b=s.heap.objs.size
   ·subst hb;rw [ag] at q;cases q;exact⟨(show 2≤sizeLine by decide),[.int i tk,u],.cons ⟨tk,rfl⟩ (.cons rx .nil),⟨_,ht,rfl,_,rfl⟩⟩
   ·rw [aa hb] at q;refine(I.hok b o q).stay (fun c v hc z=>kk c v ?_ ?_ z) (fun c z=>by rw [aa (mq c _ z).2.2];exact z) fun c xs z=>by rw [aa (mq c _ z).2.2];exact z
    ·rcases hc with z'|z'
     ·rw [z'];exact(mq b o q).1
     ·exact(mq c _ z').1
    ·rcases hc with z'|z'
     ·rw [z'];exact(mq b o q).2.1
     ·exact(mq c _ z').2.1
 refine⟨_,rfl,wpAny_letOwnedTupleGo_enum ho fun h2 D7 sb=>?_⟩
 refine⟨x,s.heap.objs.size,rfl,gx,pU,LW,NZ,I1.turned (t':=tk+1) (it:=e) (fun b o hb q=>sb.extBut b o hb q) (by rw [aa LW];exact f0) f1 f3 f4 f5,⟨_,D7⟩,D.frame _ _ _ iw fun b hb o q=>sb.extBut b o (fun z=>Kw (z▸hb)) q⟩
noncomputable def J6(K:PySem.W.Frag)(a:Addr)(xs:List V):It:=
 ⟨fun i H=>ez K H a xs∧i<xs.length,fun i H v H'=>∃p x,v=.ref p∧H p=none∧H'=upd H p (.tup [.int (i:Nat),x])∧xs[i]?=some x,fun i H=>ez K H a xs∧i=xs.length⟩
noncomputable def Hl(z:Str):It:=
 ⟨fun i _=>i<z.cps.size,fun i H v H'=>∃p c,v=.ref p∧H p=none∧H'=upd H p (.tup [.int (i:Nat),.str ⟨#[c]⟩])∧z.cps[i]?=some c,fun i _=>i=z.cps.size⟩
theorem qz{P:Program}{w:World}{K:PySem.W.Frag}{elts:List Expr}{x1:Nat}{pos:Pos}(a e it:Addr)(xs:List V):Turn P w K (.Tuple elts x1 pos) (J6 K a xs) [e,it] e (fun i h=>(∃old,IsEnum h e it i old)∧h.IsTupleIter it a i) where
 mem:=by simp
 obj:=fun i h st b hb=>by
  obtain⟨⟨old,he⟩,o,ho,_,hd⟩:=st
  rcases List.mem_cons.mp hb with z|z
  ·subst z;exact⟨_,he,fun v q=>by cases q⟩
  ·rw [List.mem_singleton.mp z];exact⟨o,ho,fun v q=>by rw [hd] at q;cases q⟩
 keep:=fun i h h' st k=>⟨by obtain⟨old,he⟩:=st.1;exact⟨old,k e (by simp) _ he⟩,st.2.at fun o q=>k it (by simp) o q⟩
 item:=by
  intro X hP hw hK hc i pins s σ H E I hf st hg;subst hP hw hK;obtain⟨hq,bW⟩:=hg
  obtain⟨⟨old,he⟩,hit⟩:=st
  obtain⟨aq,rv,p,hz⟩:=I.tuple hq
  have hl:=rv.length
  have oY:=hit
  obtain⟨oi,e1,e2,_⟩:=hit
  obtain⟨oa,a1,a2,_⟩:=id p
  have De:a≠it:=aK a1 e1 (by rw [a2,e2];decide+kernel)
  have EX:e≠it:=aK he e1 (by rw [e2];show Value.type "enumerate"≠_;decide+kernel)
  have Ie:e≠a:=aK he a1 (by rw [a2];show Value.type "enumerate"≠_;decide+kernel)
  refine bC (lZ (Gx:=fun x=>xs[i]?=some x) I (lH (A:=X.A.in1) (I.ok.hd hc) it a De aq.toArray) he ⟨oY,p⟩ (by rw [List.size_toArray];omega) EX (by simp [EX,Ie]) hf (fun u hu=>?_)) fun r s1 ⟨u,hr,k⟩=>⟨u,hr,bC k fun _ s2 ⟨x,q,z1,z2,z3,z4,z5,z6,z7,z8⟩=>?_⟩
  ·have LA:xs[i]?=some xs[i]:=List.getElem?_eq_getElem bW
   obtain⟨u',hu',ru'⟩:=rv.get LA
   have:aq.toArray[i]?=some u':=by simpa using hu'
   have HK:aq.toArray[i]?=some u:=hu
   rw [this] at HK;cases HK;exact⟨xs[i],ru',LA⟩
  ·exact⟨.ref q,_,z6,z1.symm▸rfl,⟨q,x,rfl,z3,rfl,z2⟩,⟨z7,z8.1⟩,fun b hb=>by
    rcases List.mem_cons.mp hb with w|w
    ·rw [w,aa z4];exact(hf e (by simp)).1
    ·rw [List.mem_singleton.mp w,aa z5];exact(hf it (by simp)).1⟩
 done:=by
  intro X hP hw hK hc i pins s σ H E I hf st hg;subst hP hw hK;obtain⟨hq,rfl⟩:=hg
  obtain⟨⟨old,he⟩,hit⟩:=st
  obtain⟨aq,rv,p,hz⟩:=I.tuple hq
  have hl:=rv.length
  have oY:=hit
  obtain⟨oi,e1,e2,_⟩:=hit
  obtain⟨oa,a1,a2,_⟩:=id p
  have De:a≠it:=aK a1 e1 (by rw [a2,e2];decide+kernel)
  obtain⟨g0,g1,g2,g3,g4,g5⟩:=hf it (by simp)
  refine wpAny_pyNext_enum_endD (lH (A:=X.A.in1) (I.ok.hd hc) it a De aq.toArray) he ⟨by rw [List.size_toArray,←hl];exact oY,p⟩ fun h' eb=>⟨rfl,I.turned (t':=s.toks) (fun b o hb q=>eb b o hb q) g0 g1 g3 g4 g5⟩
 self:=fun _ _ _ _ _ st h=>by obtain⟨⟨old,he⟩,_⟩:=st;exact wpAny_pyIter_enum he h
end L2
namespace L2
open PySem PySem.Spec PyProof.Rows
theorem lD{prog:Program}{w:World}{A:Around}{E:Value→Shared→Prop}{s:Shared}{l:Addr}{items:Array Value}{Q:Value→Shared→Prop}(hL:IsTup s.heap l items)
 (h:∀g,IsEnum g (s.heap.objs.size+1) s.heap.objs.size 0 .none→g.IsTupleIter s.heap.objs.size l 0→(∀b o,s.heap.get? b=some o→g.get? b=some o)→Q (.ref (s.heap.objs.size+1)) {s with heap:=g}):
 wpAny (model prog w) A (call (.type "enumerate") [.ref l]) Q E s:=by
 obtain⟨⟨cls,dd,data,sl⟩,ho,hc,n,hd⟩:=id hL
 simp only at hc hd;subst hc hd;have hz:(s.heap.push {cls:=.type "tuple_iterator",data:=.fields #[.ref l,.int 0 0]}).objs.size=s.heap.objs.size+1:=Heap.size_push ..
 refine callType_new F.called_enumerate (by decide) (F.typeCall_enumerate_1 _) (F.newCall_enumerate_1 _) (fun obj=>F.args_object_init_2 obj _) F.entry_enumerate_new (va l items n dd sl) ⟨ho,?_⟩;show _∧_;rw [hz];have he:IsEnum ((s.heap.push {cls:=.type "tuple_iterator",data:=.fields #[.ref l,.int 0 0]}).push {cls:=.type "enumerate",data:=.fields #[.none,.bool false,.ref s.heap.objs.size,rawInt 0,.none,.none]}) (s.heap.objs.size+1) s.heap.objs.size 0 .none:=by
  have q:=Heap.get?_push_size (s.heap.push {cls:=.type "tuple_iterator",data:=.fields #[.ref l,.int 0 0]}) (o:={cls:=.type "enumerate",data:=.fields #[.none,.bool false,.ref s.heap.objs.size,rawInt 0,.none,.none]}) rfl
  rw [hz] at q;exact q
 exact⟨⟨_,he,rfl⟩,h _ he ⟨_,Heap.get?_push_of_some _ (Heap.get?_push_size _ rfl),rfl,rfl⟩ fun b o x=>Heap.get?_push_of_some _ (Heap.get?_push_of_some _ x)⟩
section
variable{X:Cx}{elts:List Expr}{x1:Nat}{iF:Pos}
noncomputable def JQ(K:PySem.W.Frag)(ta:TA):TI:=fun σ H R=>ta σ H fun vs H1=>∃a xs,vs=[.ref a]∧ez K H1 a xs∧R (J6 K a xs) H1
theorem pz{a:Expr}{ta:TA}{p pos:Pos}(hg:Gl X "enumerate")(hm:X.mg "enumerate"=none)(ha:PA X [a] ta)(hs:starEach [a] X.env=[(false,eval a X.env)]:=by rfl):PI X (.Tuple elts x1 iF) (.Call (.Name "enumerate" p) [a] [] pos) (JQ X.K ta):=by
 intro pins s σ H R I h;refine Call_ (dJ I hg hm boot_enumerate (PyProof.Rows.callWith_type1 (bC (ha pos pins s σ H _ I h) fun us s1 ⟨vs,H1,I1,r1,q1⟩=>?_) hs rfl))
 obtain⟨a,xs,e,hq,q⟩:=q1
 subst e;obtain⟨u,rfl,ru⟩:=vals1 r1
 cases ru;obtain⟨aq,rv,pt,hz⟩:=I1.tuple hq
 refine lD pt fun g he hi kp=>wpAny_pyIter_enum he ?_
 have I2:Inv X pins σ H1 {s1 with heap:=g}:=I1.kept (t':=s1.toks) kp
 refine⟨s1.heap.objs.size+1,[s1.heap.objs.size+1,s1.heap.objs.size],_,_,H1,rfl,I2,qz a _ s1.heap.objs.size xs,⟨⟨_,he⟩,hi⟩,fun b hb=>?_,q⟩
 have gL:s1.heap.objs.size≤b:=by
  rcases List.mem_cons.mp hb with z|z
  ·rw [z];exact Nat.le_succ _
  ·rw [List.mem_singleton.mp z];exact Nat.le_refl _
 exact I1.fpOk gL (I1.hok.fresh gL)
end
theorem qX{P:Program}{w:World}{K:PySem.W.Frag}{elts:List Expr}{x1:Nat}{pos:Pos}(z:Str)(t:Tok)(e it:Addr):Turn P w K (.Tuple elts x1 pos) (Hl z) [e,it] e (fun i h=>(∃old,IsEnum h e it i old)∧h.IsStrIter it (strIterType z) z t i) where
 mem:=by simp
 obj:=fun i h st b hb=>by
  obtain⟨⟨old,he⟩,o,ho,_,hd⟩:=st
  rcases List.mem_cons.mp hb with q|q
  ·subst q;exact⟨_,he,fun v q=>by cases q⟩
  ·rw [List.mem_singleton.mp q];exact⟨o,ho,fun v q=>by rw [hd] at q;cases q⟩
 keep:=fun i h h' st k=>⟨by obtain⟨old,he⟩:=st.1;exact⟨old,k e (by simp) _ he⟩,by obtain⟨o,q,r⟩:=st.2;exact⟨o,k it (by simp) o q,r⟩⟩
 item:=by
  intro X hP hw hK hc i pins s σ H E I hf st hg;subst hP hw hK;have bW:i<z.cps.size:=hg
  obtain⟨⟨old,he⟩,hit⟩:=st
  have oY:=hit
  obtain⟨oi,e1,e2,_⟩:=hit
  have EX:e≠it:=aK he e1 (by
   rw [e2];show Value.type "enumerate"≠_;rcases dZ z with q|q<;>rw [q]<;>decide+kernel)
  have fin:∀{Sv:Nat→Heap→Prop},Draws X.prog X.w X.A.in1 it [it] z.cps.size (fun i v=>∃c u,z.cps[i]?=some c∧v=.str ⟨#[c]⟩ u) Sv→Sv i s.heap→(∀h,Sv (i+1) h→h.IsStrIter it (strIterType z) z t (i+1))→
   wpAny (model X.prog X.w) X.A (pyNext (.ref e)) (fun r s1=>∃u,r=some u∧wpAny (model X.prog X.w) X.A (letOwnedTupleGo (.Tuple elts x1 pos) (.ref e) u) (fun _ s2=>∃x H',Inv X pins σ H' s2∧RelV x u∧(Hl z).yld i H x H'∧((∃old,IsEnum s2.heap e it (((i+1:Nat)):Int) old)∧s2.heap.IsStrIter it (strIterType z) z t (i+1))∧∀b∈[e,it],H' b=none) E s1) E s:=by
   intro Sv D dB back;refine bC (lZ (Gx:=fun x=>∃c,x=.str ⟨#[c]⟩∧z.cps[i]?=some c) I D he dB bW EX (by simp [EX]) hf (fun u ⟨c,tk,hc,hu⟩=>⟨.str ⟨#[c]⟩,⟨tk,hu⟩,c,rfl,hc⟩)) fun r s1 ⟨u,hr,k⟩=>⟨u,hr,bC k fun _ s2 ⟨x,q,z1,⟨c,z2,nq⟩,z3,z4,z5,z6,z7,z8⟩=>?_⟩
   subst z2;exact⟨.ref q,_,z6,z1.symm▸rfl,⟨q,c,rfl,z3,rfl,nq⟩,⟨z7,back _ z8⟩,fun b hb=>by
    rcases List.mem_cons.mp hb with w|w
    ·rw [w,aa z4];exact(hf e (by simp)).1
    ·rw [List.mem_singleton.mp w,aa z5];exact(hf it (by simp)).1⟩
  rcases dZ z with q|q
  ·rw [q] at oY⊢;rw [q] at fin;exact fin (Draws.strAscii (A:=X.A.in1) (I.ok.hd hc) it z t) oY fun h st=>st
  ·rw [q] at oY⊢;rw [q] at fin;exact fin (Draws.strWide (A:=X.A.in1) (I.ok.hd hc) it z t) oY fun h st=>st
 done:=by
  intro X hP hw hK hc i pins s σ H E I hf st hg;subst hP hw hK;have hi:i=z.cps.size:=hg
  subst hi;obtain⟨⟨old,he⟩,hit⟩:=st
  obtain⟨g0,g1,g2,g3,g4,g5⟩:=hf it (by simp)
  rcases dZ z with q|q
  ·rw [q] at hit;exact wpAny_pyNext_enum_endD (Draws.strAscii (A:=X.A.in1) (I.ok.hd hc) it z t) he hit fun h' eb=>⟨rfl,I.turned (t':=s.toks) (fun b o hb q=>eb b o hb q) g0 g1 g3 g4 g5⟩
  ·rw [q] at hit;exact wpAny_pyNext_enum_endD (Draws.strWide (A:=X.A.in1) (I.ok.hd hc) it z t) he hit fun h' eb=>⟨rfl,I.turned (t':=s.toks) (fun b o hb q=>eb b o hb q) g0 g1 g3 g4 g5⟩
 self:=fun _ _ _ _ _ st h=>by obtain⟨⟨old,he⟩,_⟩:=st;exact wpAny_pyIter_enum he h
section
variable{X:Cx}{elts:List Expr}{x1:Nat}{iF:Pos}
noncomputable def HV(ta:TA):TI:=fun σ H R=>ta σ H fun vs H1=>∃z,vs=[.str z]∧R (Hl z) H1
theorem xP{a:Expr}{ta:TA}{p pos:Pos}(hg:Gl X "enumerate")(hm:X.mg "enumerate"=none)(ha:PA X [a] ta)(hs:starEach [a] X.env=[(false,eval a X.env)]:=by rfl):PI X (.Tuple elts x1 iF) (.Call (.Name "enumerate" p) [a] [] pos) (HV ta):=by
 intro pins s σ H R I h;refine Call_ (dJ I hg hm boot_enumerate (PyProof.Rows.callWith_type1 (bC (ha pos pins s σ H _ I h) fun us s1 ⟨vs,H1,I1,r1,q1⟩=>?_) hs rfl))
 obtain⟨z,e,q⟩:=q1
 subst e;obtain⟨u,rfl,t,rfl⟩:=vals1 r1
 refine call_enumerate_str fun g he hi hz kp=>wpAny_pyIter_enum he ?_
 have I2:Inv X pins σ H1 {s1 with heap:=g}:=I1.kept (t':=s1.toks) kp
 refine⟨s1.heap.objs.size+1,[s1.heap.objs.size+1,s1.heap.objs.size],_,_,H1,rfl,I2,qX z t _ s1.heap.objs.size,⟨⟨_,he⟩,hi⟩,fun b hb=>?_,q⟩
 have gL:s1.heap.objs.size≤b:=by
  rcases List.mem_cons.mp hb with z|z
  ·rw [z];exact Nat.le_succ _
  ·rw [List.mem_singleton.mp z];exact Nat.le_refl _
 exact I1.fpOk gL (I1.hok.fresh gL)
end
end L2
namespace L2
open PySem PySem.Spec PyProof.Rows
section
variable{X:Cx}{elts:List Expr}{x1:Nat}{iF:Pos}
end
end L2
namespace L2
open PySem PySem.Spec PyProof.Rows
section
variable{X:Cx}{pins:List (Addr×Obj)}{σ:St}{H:Hp}{s:Shared}{h':Heap}{ch:List Addr}
theorem Inv.moved{tk:Nat}(I:Inv X pins σ H s)(hf:∀b∈ch,du X pins H b)(kk:∀b o,b∉ch→s.heap.get? b=some o→h'.get? b=some o):Inv X pins σ H {s with heap:=h',toks:=tk}:=by
 have mq:∀b o,H b=some o→b∉ch:=fun b o q z=>by rw [(hf b z).1] at q;cases q
 refine I.step (g':=s.gens) (d':=s.drawn) (ch:=ch) (fun b hb=>?_) (fun b o _ _ hc q _=>kk b o hc q) (fun b o _ _ hc q _=>⟨o.slots,kk b o hc q⟩) (fun _ _ _ _ n=>n)
  (fun b o hc q=>⟨o,kk b o hc q⟩) (fun b xs q=>q) (fun b o u q=>q) (fun b ps q=>⟨#[],by rw [q];simp⟩) (fun m hm=>?_) (fun b o q=>?_) I.bare
 ·obtain⟨f0,f1,f2,f3,f4,f5⟩:=hf b hb
  exact⟨f3,f1,f4,f5⟩
 ·obtain⟨o,es,ep,q,r⟩:=hm
  exact⟨o,es,ep,kk _ o (fun z=>(hf _ z).2.1 rfl) q,r⟩
 ·refine(I.hok b o q).stay (fun c v hc z=>kk c v ?_ z) (fun c z=>z) fun c xs z=>z
  rcases hc with z'|z'
  ·rw [z'];exact mq b o q
  ·exact mq c _ z'
theorem Inv.movedPair{tk:Nat}{x y:V}{u v:Value}{ob:Obj}{n:Nat}(I:Inv X pins σ H s)(hf:∀b∈ch,du X pins H b)(kk:∀b o,b∉ch→s.heap.get? b=some o→h'.get? b=some o)
 (hp:h'.get? s.heap.objs.size=some ob) (hc:ob.cls=.type "tuple") (hd:ob.data=.seq #[u,v] n) (rx:RelV x u) (ry:RelV y v):Inv X pins σ (upd H s.heap.objs.size (.tup [x,y])) {s with heap:=h',toks:=tk}:=by
 have mq:∀b o,H b=some o→b∉ch∧b≠s.heap.objs.size:=fun b o q=>⟨(fun z=>(by rw [(hf b z).1] at q;cases q)),Nat.ne_of_lt (I.hok.lt q)⟩
 refine I.step (g':=s.gens) (d':=s.drawn) (ch:=ch) (fun b hb=>?_) (fun b o _ _ hc q _=>kk b o hc q) (fun b o _ _ hc q _=>⟨o.slots,kk b o hc q⟩) (fun b o _ q nb=>by rw [aa (Nat.ne_of_lt (Heap.lt_size q))];exact nb)
  (fun b o hc q=>⟨o,kk b o hc q⟩) (fun b xs q=>by rw [aa (mq b _ q).2];exact q) (fun b o u q=>by rw [aa (mq b _ q).2];exact q) (fun b ps q=>⟨#[],by rw [aa (mq b _ q).2,q];simp⟩) (fun m hm=>?_) (fun b o q=>?_) I.bare
 ·obtain⟨f0,f1,f2,f3,f4,f5⟩:=hf b hb
  exact⟨f3,f1,f4,f5⟩
 ·obtain⟨o,es,ep,q,r⟩:=hm
  exact⟨o,es,ep,kk _ o (fun z=>(hf _ z).2.1 rfl) q,r⟩
 ·by_cases hb:b=s.heap.objs.size
  ·subst hb;rw [ag] at q;cases q;exact⟨(show 2≤sizeLine by decide),[u,v],.cons rx (.cons ry .nil),⟨_,hp,hc,_,hd⟩⟩
  ·rw [aa hb] at q;refine(I.hok b o q).stay (fun c v hc z=>kk c v ?_ z) (fun c z=>by rw [aa (mq c _ z).2];exact z) fun c xs z=>by rw [aa (mq c _ z).2];exact z
   rcases hc with z'|z'
   ·rw [z'];exact(mq b o q).1
   ·exact(mq c _ z').1
end
noncomputable def IM(K:PySem.W.Frag)(a b:Addr)(xs ys:List V):It:=
 ⟨fun i H=>eh K H a xs∧eh K H b ys∧i<xs.length∧i<ys.length,fun i H v H'=>∃p x y,v=.ref p∧H p=none∧H'=upd H p (.tup [x,y])∧xs[i]?=some x∧ys[i]?=some y,
  fun i H=>eh K H a xs∧eh K H b ys∧(xs.length≤i∨ys.length≤i)⟩
theorem vI{P:Program}{w:World}{K:PySem.W.Frag}{elts:List Expr}{x1:Nat}{pos:Pos}(a b z TI TO i1 i2:Addr)(xs ys:List V)(LH:TI≠TO)(Hq:i1≠i2):
 Turn P w K (.Tuple elts x1 pos) (IM K a b xs ys) [z,TI,TO,i1,i2] z (fun i h=>IsZip h z TI TO .none∧IsPair h TI (.ref i1) (.ref i2)∧(∃c d,IsPair h TO c d)∧h.IsListIter i1 a i∧h.IsListIter i2 b i) where
 mem:=by simp
 obj:=fun i h st c hc=>by
  obtain⟨q1,q2,⟨_,_,q3⟩,⟨o4,q4,_,d4⟩,⟨o5,q5,_,d5⟩⟩:=st
  simp only [List.mem_cons,List.mem_nil_iff,or_false] at hc;rcases hc with e|e|e|e|e<;>subst e
  ·exact⟨_,q1,fun v q=>by cases q⟩
  ·exact⟨_,q2,fun v q=>by cases q⟩
  ·exact⟨_,q3,fun v q=>by cases q⟩
  ·exact⟨_,q4,fun v q=>by rw [d4] at q;cases q⟩
  ·exact⟨_,q5,fun v q=>by rw [d5] at q;cases q⟩
 keep:=fun i h h' st k=>by
  obtain⟨q1,q2,⟨c,d,q3⟩,⟨o4,q4,r4⟩,⟨o5,q5,r5⟩⟩:=st
  exact⟨k z (by simp) _ q1,k TI (by simp) _ q2,⟨c,d,k TO (by simp) _ q3⟩,⟨o4,k i1 (by simp) _ q4,r4⟩,⟨o5,k i2 (by simp) _ q5,r5⟩⟩
 item:=by
  intro X hP hw hK hc i pins s σ H E I hf st hg;subst hP hw hK;obtain⟨ha,hb,l1,l2⟩:=hg
  obtain⟨its1,rv1,p1,_⟩:=I.list ha
  obtain⟨aD,rv2,p2,_⟩:=I.list hb
  have apart:ZipApart z TI TO i1 i2 a b:=by
   obtain⟨q1,q2,⟨_,_,q3⟩,⟨o4,q4,c4,_⟩,⟨o5,q5,c5,_⟩⟩:=st
   obtain⟨o6,q6,c6,_⟩:=p1.isList
   obtain⟨o7,q7,c7,_⟩:=p2.isList
   refine⟨aK q2 q1 ?_,aK q3 q1 ?_,aK q4 q1 ?_,aK q5 q1 ?_,LH,aK q2 q4 ?_,aK q2 q5 ?_,aK q3 q4 ?_,aK q3 q5 ?_,Hq,aK q6 q1 ?_,aK q6 q3 ?_,aK q6 q4 ?_,aK q6 q5 ?_,aK q7 q1 ?_,aK q7 q3 ?_,aK q7 q4 ?_,aK q7 q5 ?_⟩
   all_goals (try rw [c4]);(try rw [c5]);(try rw [c6]);(try rw [c7])
   all_goals (first|(show Value.type "tuple"≠Value.type "zip";decide+kernel)|(show Value.type "list_iterator"≠Value.type "zip";decide+kernel)|(show Value.type "tuple"≠Value.type "list_iterator";decide+kernel)|(show Value.type "list"≠Value.type "zip";decide+kernel)|(show Value.type "list"≠Value.type "tuple";decide+kernel)|(show Value.type "list"≠Value.type "list_iterator";decide+kernel))
  obtain⟨q1,q2,⟨c,d,q3⟩,q4,q5⟩:=st
  obtain⟨u,hu,ru⟩:=rv1.get (List.getElem?_eq_getElem l1)
  obtain⟨v,hv,rv⟩:=rv2.get (List.getElem?_eq_getElem l2)
  have pU:H s.heap.objs.size=none:=I.hok.fresh (Nat.le_refl _)
  have nz:z≠s.heap.objs.size:=Nat.ne_of_lt (Heap.lt_size q1)
  refine wpAny_pyNext_zip_item apart q1 q2 q3 q4 q5 p1.isList p2.isList (x:=u) (y:=v) (by simpa using hu) (by simpa using hv) fun h' a1 a2 a3 a4 a5 a6 kk=>?_
  have fz:=hf z (by simp)
  have Jq:∀b∈[z,TO,i1,i2],du X pins H b:=fun b hb=>hf b (by simp only [List.mem_cons,List.mem_nil_iff,or_false] at hb⊢;rcases hb with e|e|e|e<;>simp [e])
  have I1:=Inv.movedPair (tk:=s.toks) (x:=xs[i]) (y:=ys[i]) I Jq (fun b o hb q=>kk b o (fun e=>hb (by simp [e])) (fun e=>hb (by simp [e])) (fun e=>hb (by simp [e])) (fun e=>hb (by simp [e])) q) a5 rfl rfl ru rv
  refine⟨_,rfl,wpAny_letOwnedTupleGo_zip a1 fun h2 HM sb=>?_⟩
  obtain⟨f0,f1,f2,f3,f4,f5⟩:=fz
  refine⟨.ref s.heap.objs.size,_,I1.turned (t':=s.toks) (it:=z) (fun b o hb q=>sb.extBut b o hb q) (by rw [aa nz];exact f0) f1 f3 f4 f5,rfl,⟨_,_,_,rfl,pU,rfl,List.getElem?_eq_getElem l1,List.getElem?_eq_getElem l2⟩,?_,fun b hb=>?_⟩
  ·exact⟨HM,sb.extBut _ _ apart.TIz (kk _ _ apart.TIz apart.TITO apart.TIi1 apart.TIi2 q2),⟨_,_,sb.extBut _ _ apart.TOz a2⟩,a3.extBut sb.extBut apart.i1z,a4.extBut sb.extBut apart.i2z⟩
  ·have hl:b<s.heap.objs.size:=by
    obtain⟨o4,r4,_⟩:=q4
    obtain⟨o5,r5,_⟩:=q5
    simp only [List.mem_cons,List.mem_nil_iff,or_false] at hb;rcases hb with e|e|e|e|e<;>subst e
    ·exact Heap.lt_size q1
    ·exact Heap.lt_size q2
    ·exact Heap.lt_size q3
    ·exact Heap.lt_size r4
    ·exact Heap.lt_size r5
   rw [aa (Nat.ne_of_lt hl)];exact(hf b hb).1
 done:=by
  intro X hP hw hK hc i pins s σ H E I hf st hg;subst hP hw hK;obtain⟨ha,hb,hl⟩:=hg
  obtain⟨its1,rv1,p1,_⟩:=I.list ha
  obtain⟨aD,rv2,p2,_⟩:=I.list hb
  have e1:=rv1.length
  have e2:=rv2.length
  have apart:ZipApart z TI TO i1 i2 a b:=by
   obtain⟨q1,q2,⟨_,_,q3⟩,⟨o4,q4,c4,_⟩,⟨o5,q5,c5,_⟩⟩:=st
   obtain⟨o6,q6,c6,_⟩:=p1.isList
   obtain⟨o7,q7,c7,_⟩:=p2.isList
   refine⟨aK q2 q1 ?_,aK q3 q1 ?_,aK q4 q1 ?_,aK q5 q1 ?_,LH,aK q2 q4 ?_,aK q2 q5 ?_,aK q3 q4 ?_,aK q3 q5 ?_,Hq,aK q6 q1 ?_,aK q6 q3 ?_,aK q6 q4 ?_,aK q6 q5 ?_,aK q7 q1 ?_,aK q7 q3 ?_,aK q7 q4 ?_,aK q7 q5 ?_⟩
   all_goals (try rw [c4]);(try rw [c5]);(try rw [c6]);(try rw [c7])
   all_goals (first|(show Value.type "tuple"≠Value.type "zip";decide+kernel)|(show Value.type "list_iterator"≠Value.type "zip";decide+kernel)|(show Value.type "tuple"≠Value.type "list_iterator";decide+kernel)|(show Value.type "list"≠Value.type "zip";decide+kernel)|(show Value.type "list"≠Value.type "tuple";decide+kernel)|(show Value.type "list"≠Value.type "list_iterator";decide+kernel))
  obtain⟨q1,q2,⟨c,d,q3⟩,q4,q5⟩:=st
  have Jq:∀b∈[z,TO,i1,i2],du X pins H b:=fun b hb=>hf b (by simp only [List.mem_cons,List.mem_nil_iff,or_false] at hb⊢;rcases hb with e|e|e|e<;>simp [e])
  refine wpAny_pyNext_zip_end (I.ok.hd hc) apart q1 q2 q3 q4 q5 p1.isList p2.isList ?_ fun h' kk=>⟨rfl,Inv.moved (tk:=s.toks) I Jq fun b o hb q=>kk b o (fun e=>hb (by simp [e])) (fun e=>hb (by simp [e])) (fun e=>hb (by simp [e])) (fun e=>hb (by simp [e])) q⟩
  rcases hl with e|e
  ·exact .inl (by simp;omega)
  ·exact .inr (by simp;omega)
 self:=fun _ _ _ _ _ st h=>wpAny_pyIter_zip st.1 h
section
variable{X:Cx}{elts:List Expr}{x1:Nat}{iF:Pos}
noncomputable def JG(K:PySem.W.Frag)(ta:TA):TI:=fun σ H R=>ta σ H fun vs H1=>∃a b xs ys,vs=[.ref a,.ref b]∧eh K H1 a xs∧eh K H1 b ys∧R (IM K a b xs ys) H1
theorem CL{a b:Expr}{ta:TA}{p pos:Pos}(hg:Gl X "zip")(hm:X.mg "zip"=none)(ha:PA X [a,b] ta)(hs:starEach [a,b] X.env=[(false,eval a X.env),(false,eval b X.env)]:=by rfl)(yk:starEach [b] X.env=[(false,eval b X.env)]:=by rfl):
 PI X (.Tuple elts x1 iF) (.Call (.Name "zip" p) [a,b] [] pos) (JG X.K ta):=by
 intro pins s σ H R I h;refine Call_ (dJ I hg hm (show bootBuiltins "zip"=some (.type "zip") by decide+kernel) (PyProof.Rows.callWith_type1 (bC (ha pos pins s σ H _ I h) fun us s1 ⟨vs,H1,I1,r1,q1⟩=>?_) (by rw [hs,yk]) (by rw [yk];rfl)))
 obtain⟨l1,l2,xs,ys,e,hq1,Hi,q⟩:=q1
 subst e;obtain⟨u,u2,rfl,ru,ru2⟩:=vals2 r1
 cases ru;cases ru2;obtain⟨its1,rv1,p1,_⟩:=I1.list hq1
 obtain⟨aD,rv2,p2,_⟩:=I1.list Hi
 refine call_zip_2 p1.isList p2.isList fun g a1 a2 a3 a4 a5 a6 kk=>wpAny_pyIter_zip a1 ?_
 have I2:Inv X pins σ H1 {s1 with heap:=g}:=I1.kept (t':=s1.toks) kk
 refine⟨_,_,_,_,H1,rfl,I2,vI l1 l2 (s1.heap.objs.size+4) (s1.heap.objs.size+2) (s1.heap.objs.size+3) s1.heap.objs.size (s1.heap.objs.size+1) xs ys (Nat.ne_of_lt (Nat.lt_succ_self _)) (Nat.ne_of_lt (Nat.lt_succ_self _)),⟨a1,a2,⟨_,_,a3⟩,a4,a5⟩,fun b hb=>?_,q⟩
 have gL:s1.heap.objs.size≤b:=by
  simp only [List.mem_cons,List.mem_nil_iff,or_false] at hb;rcases hb with e|e|e|e|e<;>(rw [e];first|exact Nat.le_refl _|exact Nat.le_add_right _ _)
 exact I1.fpOk gL (I1.hok.fresh gL)
end
end L2
namespace Ci
open PySem L2
structure Hs where
 f:Str
 h:Str
 g:Str
 idx:List Nat
 np:Nat
structure Pg where
 gs:List (Str×PV)
 bs:List Str
 cs:List Str
 fs:List Str
 rs:List Str
 hs:List Hs:=[]
 hl:Bool:=false
def di(sc:Scope)(x:Str):Bool:=sc.names.lookup x==some .local||sc.names.lookup x==some .cell
def dh(sc:Scope)(x:Str):Bool:=di sc x||sc.names.lookup x==some .free
def f7(sc:Scope)(x:Str):Bool:=sc.names.lookup x==some .globalImplicit
def litS:List PV→List PV→Bool
 |[],[]=>true
 |.str x::xs,.str y::ys=>x==y&&litS xs ys
 |_,_=>false
def sD:PV→PV→Bool
 |.int i,.int j=>i==j
 |.str x,.str y=>x==y
 |.tup xs,.tup ys=>litS xs ys
 |_,_=>false
theorem litS_eq:∀{xs ys:List PV},litS xs ys=true→xs=ys
 |[],[],_=>rfl
 |.str x::xs,.str y::ys,h=>by
  unfold litS at h;rw [Bool.and_eq_true] at h;rw [beq_iff_eq.mp h.1,litS_eq h.2]
theorem wI{p q:PV}(h:sD p q=true):p=q:=by
 unfold sD at h;split at h
 ·rw [beq_iff_eq.mp h]
 ·rw [beq_iff_eq.mp h]
 ·rw [litS_eq h]
 ·cases h
def bN:B→Str
 |.len=>"len"|.abs=>"abs"|.max2=>"max"|.int=>"int"|.str=>"str"|.all=>"all"|.sum=>"sum"|.sorted=>"sorted"|.dict=>"dict"
def eV:E→Bool
 |.tmp _=>false
 |_=>true
def fv:Es→Bool
 |.nil=>true
 |.cons e es=>eV e&&fv es
def yC:I→Bool
 |.seq e=>eV e
 |.rng _=>true
 |.rng2 _ _=>true
 |.enum e=>eV e
 |.zip a b=>eV a&&eV b
def isNil:Es→Bool
 |.nil=>true
 |_=>false
def g6:Es→Nat
 |.nil=>0
 |.cons _ es=>g6 es+1
noncomputable def fK(N:List Str)(sc:Scope)(fn:Str→Bool):Tg→Expr→Bool
 |.one i,.Name x _=>N[i]?==some x&&di sc x&&(fn x||sc.names.lookup x==some .local)
 |.two i j,.Tuple [.Name x _,.Name y _] _ _=>N[i]?==some x&&di sc x&&(fn x||sc.names.lookup x==some .local)&&(N[j]?==some y&&di sc y&&(fn y||sc.names.lookup y==some .local))
 |_,_=>false
def aM:Expr→List Str
 |.Name x _=>[x]
 |.Tuple [.Name x _,.Name y _] _ _=>[x,y]
 |_=>[]
def cJ(scope sc:Scope):Scope:=
 {scope with names:=scope.names.map fun(n,k)=>if(k==.free&&sc.kind==.function&&sc.names.lookup n==some .cell) then(n,.cell) else(n,k)}
def freeOf(scope:Scope):List Str:=((scope.names.filter fun p=>p.2==.free).map (·.1)).reverse
noncomputable def rV(N:List Str)(sc scope:Scope)(k:Nat)(aU:List Nat)(xs:List Str):Bool:=
 scope.kind==.function&&xs.length==k&&decide ((xs++freeOf scope).Nodup)
 &&(scope.names.all fun y=>(decide (y.2≠.cell)||!(freeOf scope).contains y.1)&&(decide (y.2≠.free)||(freeOf scope).contains y.1))
 &&(scope.names.all fun y=>decide (y.2≠.cell)||decide (scope.names.lookup y.1=some .cell))
 &&(scope.names.all fun y=>decide (y.2≠.local)||decide (scope.names.lookup y.1=some .local))
 &&decide (aU.map (fun i=>N[i]?)=(freeOf scope).map some)
 &&((freeOf scope).all fun y=>decide (sc.names.lookup y=some .cell))
 &&((freeOf scope).all fun y=>decide ((cJ scope sc).names.lookup y=some .cell))
def jo(k:Nat):Tg→Bool
 |.one i=>decide (i<k)
 |.two i j=>decide (i<k)&&decide (j<k)
def dQ:E→Bool
 |.ite _ _ _=>false
 |.not a=>dQ a
 |.and a b=>dQ a&&dQ b
 |.or a b=>dQ a&&dQ b
 |_=>true
def isTup:Expr→Bool
 |.Tuple .. =>true
 |_=>false
noncomputable abbrev Pg.nol(Γ:Pg):Pg:={Γ with hl:=false}
mutual
noncomputable def aS(Γ:Pg)(N:List Str)(sc:Scope):E→Expr→Bool
 |.var i,.Name x _=>N[i]?==some x&&dh sc x&&okN x
 |.tmp i,.Name x _=>N[i]?==some x&&dh sc x&&okN x
 |.cst .non,.Constant .none _ _=>true
 |.cst (.bl b),.Constant (.bool c) _ _=>b==c
 |.cst (.int i),.Constant (.int j) _ _=>i==j
 |.cst (.str z),.Constant (.str y) _ _=>z==y
 |.glob g p,.Name x _=>g==x&&f7 sc x&&okN x&&Γ.gs.any fun q=>q.1==g&&sD q.2 p
 |.call f as,.Call (.Name g _) args [] _=>f==g&&Γ.fs.contains g&&f7 sc g&&okN g&&fv as&&g8 Γ N sc as args
 |.callv i as,.Call (.Name x _) args [] _=>N[i]?==some x&&dh sc x&&okN x&&fv as&&!isNil as&&g8 Γ N sc as args
 |.callL f as g idx aU,.Call (.Name h _) args [] _=>Γ.hl&&f7 sc h&&okN h&&fv as&&!isNil as&&(Γ.hs.any fun q=>q.f==f&&q.h==h&&q.g==g&&q.idx==idx&&decide (q.np=g6 as+1))&&su Γ N sc g idx aU as args
 |.blt b as,.Call (.Name g _) args [] _=>bN b==g&&f7 sc g&&Γ.bs.contains g&&!isNil as&&g8 Γ N sc as args
 |.ty t a,.Call (.Name g _) [pa,.Name tn _] [] _=>g=="isinstance"&&f7 sc g&&Γ.bs.contains g&&tn==Str.ofString (qx t)&&f7 sc tn&&Γ.bs.contains tn&&aS Γ N sc a pa
 |.bin o a b,.BinOp pa op pb _=>decide (Jh o=op)&&aS Γ N sc a pa&&aS Γ N sc b pb
 |.cmp o a b,.Compare pa [op] [pb] _=>decide (oo o=op)&&aS Γ N sc a pa&&aS Γ N sc b pb
 |.ch o1 o2 a b c,.Compare pa [op1,op2] [pb,pc] _=>decide (oo o1=op1)&&decide (oo o2=op2)&&aS Γ N sc a pa&&aS Γ N sc b pb&&aS Γ N sc c pc
 |.not a,.UnaryOp .Not pa _=>aS Γ N sc a pa
 |.neg a,.UnaryOp .USub pa _=>aS Γ N sc a pa
 |.and a b,.BoolOp .And [pa,pb] _=>eV b&&aS Γ N sc a pa&&aS Γ N sc b pb
 |.and a b,.BoolOp .And (pa::pb::pc::r) pos=>eV b&&aS Γ N sc a pa&&aS Γ N sc b (.BoolOp .And (pb::pc::r) pos)
 |.or a b,.BoolOp .Or [pa,pb] _=>eV b&&aS Γ N sc a pa&&aS Γ N sc b pb
 |.or a b,.BoolOp .Or (pa::pb::pc::r) pos=>eV b&&aS Γ N sc a pa&&aS Γ N sc b (.BoolOp .Or (pb::pc::r) pos)
 |.ite c a b,.IfExp pc pa pb _=>dQ c&&eV a&&eV b&&aS Γ N sc c pc&&aS Γ N sc a pa&&aS Γ N sc b pb
 |.tup as,.Tuple ps _ _=>fv as&&decide (g6 as<1000)&&g8 Γ N sc as ps
 |.lst as,.List ps _=>fv as&&decide (g6 as<1000)&&g8 Γ N sc as ps
 |.sub a b,.Subscript pa pb _=>aS Γ N sc a pa&&aS Γ N sc b pb
 |.slice a lo hi,.Subscript pa (.Slice pl ph none _) _=>aS Γ N sc a pa&&C6 Γ N sc lo pl&&C6 Γ N sc hi ph
 |.comp k aU tg it elt,.ListComp dm [⟨bX,eG,[],asy⟩] scope _=>rV N sc scope k aU (aM bX)&&jo k tg&&eV elt&&uT Γ N sc bX it eG&&fK (aM bX++freeOf scope) (cJ scope sc) (ju scope) tg bX&&aS Γ.nol (aM bX++freeOf scope) (cJ scope sc) elt dm&&decide (asy=0)
 |.compIf k aU tg it c elt,.ListComp dm [⟨bX,eG,[pc],asy⟩] scope _=>dQ c&&rV N sc scope k aU (aM bX)&&jo k tg&&eV elt&&uT Γ N sc bX it eG&&fK (aM bX++freeOf scope) (cJ scope sc) (ju scope) tg bX&&aS Γ.nol (aM bX++freeOf scope) (cJ scope sc) c pc&&aS Γ.nol (aM bX++freeOf scope) (cJ scope sc) elt dm&&decide (asy=0)
 |.lrev a,.Call (.Name g _) [.Call (.Name g2 _) [pa] [] _] [] _=>g=="list"&&f7 sc g&&Γ.bs.contains g&&g2=="reversed"&&f7 sc g2&&Γ.bs.contains g2&&aS Γ N sc a pa
 |_,_=>false
noncomputable def g8(Γ:Pg)(N:List Str)(sc:Scope):Es→List Expr→Bool
 |.nil,[]=>true
 |.cons e es,p::ps=>aS Γ N sc e p&&g8 Γ N sc es ps
 |_,_=>false
noncomputable def su(Γ:Pg)(N:List Str)(sc:Scope)(g:Str)(idx aU:List Nat):Es→List Expr→Bool
 |.nil,[.Lambda params body scope _]=>wA g idx params body scope&&decide (aU.map (fun i=>N[i]?)=(aZ scope).map some)&&((aZ scope).all fun y=>decide (sc.names.lookup y=some .cell))
 |.cons e es,p::ps=>aS Γ N sc e p&&su Γ N sc g idx aU es ps
 |_,_=>false
noncomputable def C6(Γ:Pg)(N:List Str)(sc:Scope):Oe→Option Expr→Bool
 |.no,none=>true
 |.some e,some p=>aS Γ N sc e p
 |_,_=>false
noncomputable def uT(Γ:Pg)(N:List Str)(sc:Scope)(tg:Expr):I→Expr→Bool
 |.seq e,p=>aS Γ N sc e p
 |.rng e,.Call (.Name g _) [p] [] _=>g=="range"&&f7 sc g&&Γ.bs.contains g&&aS Γ N sc e p
 |.rng2 a b,.Call (.Name g _) [p,q] [] _=>g=="range"&&f7 sc g&&Γ.bs.contains g&&aS Γ N sc a p&&aS Γ N sc b q
 |.enum e,.Call (.Name g _) [p] [] _=>isTup tg&&g=="enumerate"&&f7 sc g&&Γ.bs.contains g&&aS Γ N sc e p
 |.zip a b,.Call (.Name g _) [p,q] [] _=>isTup tg&&g=="zip"&&f7 sc g&&Γ.bs.contains g&&aS Γ N sc a p&&aS Γ N sc b q
 |_,_=>false
end
theorem aC{a b:Bool}(h:(a&&b)=true):a=true∧b=true:=Bool.and_eq_true_iff.mp h
theorem bw{α:Type}{o:Option α}{f:α→Bool}(h:o.any f=true):∃x,o=some x∧f x=true:=by
 cases o with
 |none=>cases h
 |some x=>exact⟨x,rfl,h⟩
end Ci
namespace Ci
open PySem L2
def XE(W:Wd)(c:Str)(G1 H1:Hp):XK:=fun Cv ao H'=>∃C a G',Cv=.ref C∧ao=some a∧c∈W.xs∧W.mg c=some (.ref C)∧aE W G1 H1 G' H'
def q8(X:Cx)(W:Wd)(σ:St)(c:Str)(G H:Hp):Prop:=∀(pins:List (Addr×Obj)) (G1 H1:Hp) (s1:Shared) (e:Value) (s':Shared),Inv X pins σ H1 s1→aE W G H G1 H1→dC X.prog X.w X.stack H1 s1 (XE W c G1 H1) e s'→X.xe e s'
def Out{α:Type}(X:Cx)(W:Wd)(r:Res α)(σ:St)(G H:Hp)(k:α→Prop):Prop:=match r with
 |.ok a=>k a
 |.exc c=>q8 X W σ c G H
 |.bad=>False
section
variable{X:Cx}{W:Wd}{F:bj}{σ:St}{G H G1 H1:Hp}{α β:Type}
theorem q8.grow{c:Str}(h:q8 X W σ c G H)(g:aE W G H G1 H1):q8 X W σ c G1 H1:=fun pins G2 H2 s1 e s' I g2 x=>h pins G2 H2 s1 e s' I (g.trans g2) x
theorem Out.grow{r:Res α}{k:α→Prop}(h:Out X W r σ G H k)(g:aE W G H G1 H1):Out X W r σ G1 H1 k:=by
 cases r with
 |ok a=>exact h
 |exc c=>exact q8.grow h g
 |bad=>exact h
theorem Out.imp{r:Res α}{k k':α→Prop}(h:Out X W r σ G H k)(i:∀a,k a→k' a):Out X W r σ G H k':=by
 cases r with
 |ok a=>exact i a h
 |exc c=>exact h
 |bad=>exact h
theorem Out.bind{r:Res α}{f:α→Res β}{k:β→Prop}(h:Out X W (r.bind f) σ G H k):Out X W r σ G H fun a=>Out X W (f a) σ G H k:=by
 cases r with
 |ok a=>exact h
 |exc c=>exact h
 |bad=>exact h
theorem Out.val{r:Res α}{k:α→Prop}(h:Out X W r σ G H k)(n:∀c,r≠.exc c):∃a,r=.ok a∧k a:=by
 cases r with
 |ok a=>exact⟨a,rfl,h⟩
 |exc c=>exact absurd rfl (n c)
 |bad=>exact h.elim
structure Got(W:Wd)(H0 G H:Hp)(e:E)(p:PV)(v:V):Prop where
 top:Top W H0 G H p v
 rep:eV e=true→Rep W G p v
theorem Got.of{H0:Hp}{e:E}{p:PV}{v:V}(h:Rep W G p v):Got W H0 G H e p v:=⟨.inl h,fun _=>h⟩
noncomputable def tE(X:Cx)(W:Wd)(F:bj)(e:E):TE:=fun σ H Q=>∃H0 G env,SR W H0 env σ G H∧Out X W (aA F e env) σ G H fun p=>∀v G' H',aE W G H G' H'→Got W H0 G' H' e p v→Q v H'
noncomputable def tT(X:Cx)(W:Wd)(F:bj)(e:E):TT:=fun σ H Q=>∃H0 G env,SR W H0 env σ G H∧Out X W (aA F e env) σ G H fun p=>∃b,p=.bl b∧∀G' H',aE W G H G' H'→Q b H'
structure CK(W:Wd)(H0 G H:Hp)(es:Es)(ps:List PV)(vs:List V):Prop where
 top:Paired (fun v p=>Top W H0 G H p v) vs ps
 rep:fv es=true→ae W G ps vs
noncomputable def tA(X:Cx)(W:Wd)(F:bj)(es:Es):TA:=fun σ H Q=>∃H0 G env,SR W H0 env σ G H∧Out X W (aB F es env) σ G H fun ps=>∀vs G' H',aE W G H G' H'→CK W H0 G' H' es ps vs→Q vs H'
noncomputable def wK(X:Cx)(W:Wd)(F:bj)(o:Oe):TO:=fun σ H Q=>∃H0 G env,SR W H0 env σ G H∧Out X W (bU F o env) σ G H fun i=>∀G' H',aE W G H G' H'→Q i H'
theorem one{H0:Hp}{env:Sl}{e:E}{f:PV→Res β}{k:β→Prop}{Q:VK}(sr:SR W H0 env σ G H)(o:Out X W ((aA F e env).bind f) σ G H k)
 (h:∀p v G1 H1,aE W G H G1 H1→Got W H0 G1 H1 e p v→SR W H0 env σ G1 H1→Out X W (f p) σ G1 H1 k→Q v H1):tE X W F e σ H Q:=
 ⟨H0,G,env,sr,o.bind.imp fun p hp v G1 H1 g t=>h p v G1 H1 g t (sr.grow g) (hp.grow g)⟩
theorem AN{H0:Hp}{env:Sl}{e:E}{f:Bool→Res β}{k:β→Prop}{Q:Bool→Hp→Prop}(sr:SR W H0 env σ G H)(o:Out X W ((aA F e env).bind fun p=>rb p f) σ G H k)
 (h:∀b G1 H1,aE W G H G1 H1→SR W H0 env σ G1 H1→Out X W (f b) σ G1 H1 k→Q b H1):tT X W F e σ H Q:=by
 refine⟨H0,G,env,sr,o.bind.imp fun p hp=>?_⟩
 cases p with
 |bl b=>exact⟨b,rfl,fun G1 H1 g=>h b G1 H1 g (sr.grow g) (Out.grow hp g)⟩
 |non=>exact False.elim hp
 |int _=>exact False.elim hp
 |str _=>exact False.elim hp
 |tup _=>exact False.elim hp
 |lst _=>exact False.elim hp
 |exc _=>exact False.elim hp
 |dct _ _=>exact False.elim hp
theorem args{H0:Hp}{env:Sl}{es:Es}{f:List PV→Res β}{k:β→Prop}{Q:List V→Hp→Prop}(sr:SR W H0 env σ G H)(o:Out X W ((aB F es env).bind f) σ G H k)
 (h:∀ps vs G1 H1,aE W G H G1 H1→CK W H0 G1 H1 es ps vs→SR W H0 env σ G1 H1→Out X W (f ps) σ G1 H1 k→Q vs H1):tA X W F es σ H Q:=
 ⟨H0,G,env,sr,o.bind.imp fun p hp v G1 H1 g t=>h p v G1 H1 g t (sr.grow g) (hp.grow g)⟩
theorem Got.grow{H0 G2 H2:Hp}{e:E}{p:PV}{v:V}(h:Got W H0 G H e p v)(g:aE W G H G2 H2):Got W H0 G2 H2 e p v:=⟨h.top.grow g,fun z=>Rep.same g.g p (h.rep z)⟩
def v9(W:Wd)(G:Hp):Option (Str×List Nat)→List PV→List V→Prop
 |none,as,vs=>ae W G as vs
 |some q,as,vs=>∃vi cy r8 v,as=vi++cy∧vs=r8++[v]∧ae W G vi r8∧nQ W G q.1 q.2 cy v
noncomputable def vn(W:Wd)(F:bj)(f:Str)(n:Nat)(q:Option (Str×List Nat)):Sp:=fun vs H Q E=>vs.length=n∧∃G as,ay G H∧cb W G H∧v9 W G q as vs∧(match F f as with
 |.ok p=>∀v G' H',aE W G H G' H'→Rep W G' p v→Q v H'
 |.exc c=>∀Cv ao H',XE W c G H Cv ao H'→E Cv ao H'
 |.bad=>False)
structure D5(X:Cx)(W:Wd)(F:bj)(k:Nat)(f:Str):Prop where
 ex:∃fa fd ps,fj X.prog X.w X.K X.mg X.base (dC X.prog X.w) k fa fd ps (vn W F f ps.length none)∧X.mg f=some (.ref fa)∧PySem.W.keepIn X.K (.ref fa)=true∧Binds X.K fd ps []∧∀as,F f as≠.bad→as.length=ps.length
structure FZ(X:Cx)(W:Wd)(F:bj)(k:Nat)(q:Hs):Prop where
 ex:∃fa fd ps,fj X.prog X.w X.K X.mg X.base (dC X.prog X.w) k fa fd ps (vn W F q.f ps.length (some (q.g,q.idx)))∧X.mg q.h=some (.ref fa)∧PySem.W.keepIn X.K (.ref fa)=true∧Binds X.K fd ps []∧ps.length=q.np
structure dw(Γ:Pg)(F:bj)(W:Wd)(N:List Str)(sc:Scope)(k:Nat)(X:Cx):Prop where
 hN:X.N=N
 hsc:X.env.scope=sc
 calm:X.calm=true
 nd:N.Nodup
 K:W.K=X.K
 mg:W.mg=X.mg
 gs:∀q∈Γ.gs,∃u v,X.mg q.1=some u∧RelV v u∧∀G,Rep W G q.2 v
 bs:∀g∈Γ.bs,X.mg g=none
 room:df (k+1) X.A
 fns:∀f,Γ.fs.contains f=true→D5 X W F k f
 nov:Γ.cs.contains "ValueError"=false
 cls:∀c∈Γ.cs,∃C,X.mg c=some (.ref C)
 xc:∀d∈W.xs,∀D,X.mg d=some (.ref D)→BS X.K D∧(∀c∈Γ.cs,∀C,X.mg c=some (.ref C)→PySem.W.kitOne X.K (.ref D) (.ref C)=some (c==d||c=="FloorError"))∧PySem.W.kitOne X.K (.ref D) (.type "ValueError")=some true
 hfs:∀q∈Γ.hs,FZ X W F k q
 any:∀g as,F g as≠.bad→Γ.fs.contains g=true∨gy g=true
 tb:Γ.hl=true→∃c P,X.env.code=.ref c∧PySem.W.CodeHd X.base c P∧(P,X.env.qual++"<lambda>")∈W.ts∧∀q',(P,q')∈W.ts→q'=X.env.qual++"<lambda>"
 bm:Γ.hl=true→wM X.mg X.base
 fl:Γ.hl=true→∀x,X.fn x=true
end
end Ci
namespace Ci
open PySem L2
section
variable{Γ:Pg}{X:Cx}{W:Wd}{F:bj}{N:List Str}{sc:Scope}{k:Nat}
theorem j8(C:dw Γ F W N sc k X){x:Str}(h:dh sc x=true):FV X.env.scope x:=by
 rw [C.hsc];unfold dh di at h;simp only [Bool.or_eq_true,beq_iff_eq] at h;rcases h with(h|h)|h
 ·exact .inl h
 ·exact .inr (.inl h)
 ·exact .inr (.inr h)
theorem dR(C:dw Γ F W N sc k X){x:Str}(h:f7 sc x=true):Gl X x:=by
 show X.env.scope.names.lookup x=_
 rw [C.hsc];exact beq_iff_eq.mp h
theorem cM{x:Str}(h:okN x=true):(x==("__debug__":Str))=false∧(x==("__classdict__":Str))=false∧x≠"__name__":=by
 unfold okN at h;simp only [Bool.and_eq_true,Bool.not_eq_true',beq_eq_false_iff_ne] at h;exact⟨beq_eq_false_iff_ne.mpr h.1.1,beq_eq_false_iff_ne.mpr h.1.2,h.2⟩
abbrev GE(X:Cx)(W:Wd)(F:bj)(e:E)(p:Expr):Prop:=PE X p (tE X W F e)
abbrev GT(X:Cx)(W:Wd)(F:bj)(e:E)(p:Expr):Prop:=PT X p (tT X W F e)
abbrev GW(X:Cx)(W:Wd)(F:bj)(e:E)(p:Expr):Prop:=PW X p (tT X W F e)
theorem _root_.L2.PE.imp{p:Expr}{t t':TE}(h:PE X p t)(i:∀σ H Q,t' σ H Q→t σ H Q):PE X p t':=fun pins s σ H Q I hw=>h pins s σ H Q I (i σ H Q hw)
theorem _root_.L2.PT.imp{p:Expr}{t t':TT}(h:PT X p t)(i:∀σ H Q,t' σ H Q→t σ H Q):PT X p t':=fun pins s σ H Q I hw=>h pins s σ H Q I (i σ H Q hw)
theorem _root_.L2.PW.imp{p:Expr}{t t':TT}(h:PW X p t)(i:∀σ H Q,t' σ H Q→t σ H Q):PW X p t':=fun w pins s σ H Q I hw=>h w pins s σ H Q I (i σ H Q hw)
theorem _root_.L2.PA.imp{p:List Expr}{t t':TA}(h:PA X p t)(i:∀σ H Q,t' σ H Q→t σ H Q):PA X p t':=fun pos pins s σ H Q I hw=>h pos pins s σ H Q I (i σ H Q hw)
theorem Bu{e:E}(σ:St)(H:Hp)(Q:Bool→Hp→Prop)(h:tT X W F e σ H Q):tB (tE X W F e) σ H Q:=by
 obtain⟨H0,G,env,sr,o⟩:=h
 refine⟨H0,G,env,sr,o.imp fun p hp v G' H' g t=>?_⟩
 obtain⟨b,rfl,q⟩:=hp
 exact⟨b,t.top.bl,q G' H' g⟩
theorem oW{e:E}(σ:St)(H:Hp)(Q:Bool→Hp→Prop)(h:tT X W F e σ H Q):vA (tE X W F e) σ H Q:=Bu σ H Q h
theorem DS(C:dw Γ F W N sc k X){i:Nat}{x:Str}{pos:Pos}(h:(N[i]?==some x&&dh sc x&&okN x)=true):GE X W F (.var i) (.Name x pos):=by
 simp only [Bool.and_eq_true,beq_iff_eq] at h;obtain⟨h1,h2,h3⟩:=cM h.2
 refine(d7 (i:=i) (by rw [C.hN];exact h.1.1) (j8 C h.1.2) h1 h2).imp fun σ H Q hq=>?_
 obtain⟨H0,G,env,sr,o⟩:=hq
 cases e:env[i]? with
 |none=>unfold aA at o;rw [e] at o;exact o.elim
 |some sl=>
  cases sl with
  |no=>unfold aA at o;rw [e] at o;exact o.elim
  |fn _ _ _=>unfold aA at o;rw [e] at o;exact o.elim
  |own p=>unfold aA at o;rw [e] at o;exact o.elim
  |val p=>
   unfold aA at o;rw [e] at o;obtain⟨o2,hs,v,rfl,r⟩:=sr.slot i _ e
   exact⟨v,hs,o v G H (.refl sr.sub) (.of r)⟩
theorem Dw(C:dw Γ F W N sc k X){i:Nat}{x:Str}{pos:Pos}(h:(N[i]?==some x&&dh sc x&&okN x)=true):GE X W F (.tmp i) (.Name x pos):=by
 simp only [Bool.and_eq_true,beq_iff_eq] at h;obtain⟨h1,h2,h3⟩:=cM h.2
 refine(d7 (i:=i) (by rw [C.hN];exact h.1.1) (j8 C h.1.2) h1 h2).imp fun σ H Q hq=>?_
 obtain⟨H0,G,env,sr,o⟩:=hq
 cases e:env[i]? with
 |none=>unfold aA at o;rw [e] at o;exact o.elim
 |some sl=>
  cases sl with
  |no=>unfold aA at o;rw [e] at o;exact o.elim
  |fn _ _ _=>unfold aA at o;rw [e] at o;exact o.elim
  |own p=>
   unfold aA at o;rw [e] at o;obtain⟨o2,hs,v,rfl,r⟩:=sr.slot i _ e
   exact⟨v,hs,o v G H (.refl sr.sub) ⟨.inr r,fun z=>nomatch z⟩⟩
  |val p=>
   unfold aA at o;rw [e] at o;obtain⟨o2,hs,v,rfl,r⟩:=sr.slot i _ e
   exact⟨v,hs,o v G H (.refl sr.sub) (.of r)⟩
theorem hZ{p:PV}{v:V}{e:Expr}(h:PE X e (tC v))(r:∀G,Rep W G p v):GE X W F (.cst p) e:=by
 refine L2.PE.imp h fun σ H Q hq=>?_
 obtain⟨H0,G,env,sr,o⟩:=hq
 exact o v G H (.refl sr.sub) (.of (r G))
theorem Az(C:dw Γ F W N sc k X){g x:Str}{p:PV}{pos:Pos}(h:(g==x&&f7 sc x&&okN x&&Γ.gs.any fun q=>q.1==g&&sD q.2 p)=true):GE X W F (.glob g p) (.Name x pos):=by
 simp only [Bool.and_eq_true,beq_iff_eq,List.any_eq_true] at h;obtain⟨⟨⟨rfl,h2⟩,h3⟩,q,hq,e1,e2⟩:=h
 obtain⟨u,v,hm,rv,hr⟩:=C.gs q hq
 rw [e1] at hm;cases wI e2;refine(yX (dR C h2) hm rv (cM h3).1).imp fun σ H Q hq=>?_
 obtain⟨H0,G,env,sr,o⟩:=hq
 exact o v G H (.refl sr.sub) (.of (hr G))
theorem lx{o:Ez}{p q:PV}(c:Str):binOp o p q≠.exc c:=by
 unfold binOp
 repeat' split
 all_goals exact fun z=>nomatch z
theorem Res.of_noexc{α:Type}{o:Option α}(c:Str):Res.of o≠.exc c:=by cases o<;>exact fun z=>nomatch z
theorem c8{o:xY}{p q:PV}(c:Str):cO o p q≠.exc c:=by
 cases o
 case eq=>show iO p q≠_;unfold iO;split<;>exact fun z=>nomatch z
 case ne=>show iN p q≠_;unfold iN;split<;>exact fun z=>nomatch z
 case lt=>
  show pL p q≠_
  unfold pL;split
  ·exact fun z=>nomatch z
  ·intro z;rcases Res.bind_exc z with z|⟨a,_,z⟩
   ·exact Res.of_noexc c z
   ·rcases Res.bind_exc z with z|⟨a,_,z⟩
    ·exact Res.of_noexc c z
    ·cases z
  ·exact fun z=>nomatch z
 case le=>show oJ p q≠_;unfold oJ;split<;>exact fun z=>nomatch z
 case gt=>show qV p q≠_;unfold qV;split<;>exact fun z=>nomatch z
 case ge=>show qj p q≠_;unfold qj;split<;>exact fun z=>nomatch z
 case is=>show rg p q≠_;unfold rg;split<;>exact fun z=>nomatch z
 case isn=>show eZ p q≠_;unfold eZ;split<;>exact fun z=>nomatch z
 case in_=>
  show qm p q≠_
  unfold qm;split
  ·split<;>exact fun z=>nomatch z
  ·split<;>exact fun z=>nomatch z
  ·exact fun z=>nomatch z
 case nin=>
  show jZ p q≠_
  unfold jZ;split
  ·split<;>exact fun z=>nomatch z
  ·intro z;rcases Res.bind_exc z with z|⟨a,_,z⟩
   ·exact Res.of_noexc c z
   ·cases z
  ·exact fun z=>nomatch z
theorem two{op:PV→PV→Res PV}{ea eb:E}{e:E}{σ:St}{H:Hp}{Q:VK}(hn:∀p q c,op p q≠.exc c)(he:∀env,aA F e env=(aA F ea env).bind fun x=>(aA F eb env).bind fun y=>op x y)
 (h:tE X W F e σ H Q):EF (qd W op) (tE X W F ea) (tE X W F eb) σ H Q:=by
 obtain⟨H0,G,env,sr,o⟩:=h
 rw [he] at o;refine one sr o fun p v G1 H1 g1 t1 bD o1=>one bD o1 fun q u G2 H2 g2 t2 eX o2=>?_
 obtain⟨r,hr,kr⟩:=o2.val (hn p q)
 exact⟨H0,G2,p,q,r,eX.sub,t1.top.grow g2,t2.top,hr,fun w G' H' g' gh=>kr w G' H' ((g1.trans g2).trans g') (.of gh)⟩
theorem CD(C:dw Γ F W N sc k X){o:Ez}{a b:E}{pa pb:Expr}{pos:Pos}(ha:GE X W F a pa)(hb:GE X W F b pb):GE X W F (.bin o a b) (.BinOp pa (Jh o) pb pos):=
 (FR (DA C.K o) ha hb).imp fun σ H Q h=>two (fun p q c=>lx c) (fun env=>by rw [aA]) h
theorem BP(C:dw Γ F W N sc k X){o:xY}{a b:E}{pa pb:Expr}{pos:Pos}(ha:GE X W F a pa)(hb:GE X W F b pb)(hm:behindInMarks (oo o) pb=false):GE X W F (.cmp o a b) (.Compare pa [oo o] [pb] pos):=
 (zu (fV C.K C.room.units o) ha hb hm).imp fun σ H Q h=>two (fun p q c=>c8 c) (fun env=>by rw [aA]) h
theorem BU(C:dw Γ F W N sc k X){o:xY}{a b:E}{pa pb:Expr}{pos:Pos}(ha:GE X W F a pa)(hb:GE X W F b pb)(hm:behindInMarks (oo o) pb=false):GT X W F (.cmp o a b) (.Compare pa [oo o] [pb] pos):=
 (zE (fV C.K C.room.units o) ha hb hm).imp fun σ H Q h=>by
  have h2:=oW σ H Q h
  exact two (fun p q c=>c8 c) (fun env=>by rw [aA]) h2
theorem A6{c1 c2:xY}{a b c:E}(σ:St)(H:Hp)(Q:VK)(h:tE X W F (.ch c1 c2 a b c) σ H Q):qN (qd W (cO c1)) (qd W (cO c2)) (tE X W F a) (tE X W F b) (tE X W F c) σ H Q:=by
 obtain⟨H0,G,env,sr,o⟩:=h
 rw [aA] at o;refine one sr o fun p v G1 H1 g1 t1 bD o1=>one bD o1 fun q u G2 H2 g2 t2 eX o2=>?_
 obtain⟨r,hr,kr⟩:=o2.bind.val (c8)
 refine⟨H0,G2,p,q,r,eX.sub,t1.top.grow g2,t2.top,hr,fun w G3 H3 g3 gh=>?_⟩
 cases r with
 |bl t=>
  simp only [Rep] at gh;subst gh;refine⟨t,rfl,?_⟩;cases t with
  |false=>
   rw [if_neg zzf];have qf:Out X W (Res.ok (PV.bl false)) σ G2 H2 _:=kr
   exact qf _ G3 H3 ((g1.trans g2).trans g3) (.of .b)
  |true=>
   rw [if_pos rfl];have qf:Out X W ((aA F c env).bind fun z=>cO c2 q z) σ G2 H2 _:=kr
   refine one (eX.grow g3) (qf.grow g3) fun z y G4 H4 g4 t4 CQ o4=>?_
   obtain⟨r4,hr4,kr4⟩:=o4.val (c8)
   exact⟨H0,G4,q,z,r4,CQ.sub,t2.top.grow (g3.trans g4),t4.top,hr4,fun w G5 H5 g5 Ml=>kr4 w G5 H5 ((((g1.trans g2).trans g3).trans g4).trans g5) (.of Ml)⟩
 |non=>exact False.elim kr
 |int _=>exact False.elim kr
 |str _=>exact False.elim kr
 |tup _=>exact False.elim kr
 |lst _=>exact False.elim kr
 |exc _=>exact False.elim kr
 |dct _ _=>exact False.elim kr
theorem Fm(C:dw Γ F W N sc k X){o1 o2:xY}{a b c:E}{pa pb pc:Expr}{pos:Pos}(ha:GE X W F a pa)(hb:GE X W F b pb)(hc:GE X W F c pc)(hm:lastMarks [oo o1,oo o2] [pb,pc]=false):GE X W F (.ch o1 o2 a b c) (.Compare pa [oo o1,oo o2] [pb,pc] pos):=
 (xU (fV C.K C.room.units o1) (fV C.K C.room.units o2) ha hb hc hm).imp A6
theorem Fx(C:dw Γ F W N sc k X){o1 o2:xY}{a b c:E}{pa pb pc:Expr}{pos:Pos}(ha:GE X W F a pa)(hb:GE X W F b pb)(hc:GE X W F c pc)(hm:lastMarks [oo o1,oo o2] [pb,pc]=false):GT X W F (.ch o1 o2 a b c) (.Compare pa [oo o1,oo o2] [pb,pc] pos):=
 (wD (fV C.K C.room.units o1) (fV C.K C.room.units o2) ha hb hc hm).imp fun σ H Q h=>A6 σ H _ (oW σ H Q h)
theorem C2{a:E}{pa:Expr}{pos:Pos}(ha:GE X W F a pa):GE X W F (.neg a) (.UnaryOp .USub pa pos):=
 (Fw (yG (W:=W)) ha).imp fun σ H Q h=>by
  obtain⟨H0,G,env,sr,o⟩:=h
  rw [aA] at o;refine one sr o fun p v G1 H1 g1 t1 bD o1=>?_
  cases p with
  |int i=>exact⟨H0,G1,i,bD.sub,t1.top,fun w G' H' g' gh=>o1 w G' H' (g1.trans g') (.of gh)⟩
  |bl _=>exact False.elim o1
  |non=>exact False.elim o1
  |str _=>exact False.elim o1
  |tup _=>exact False.elim o1
  |lst _=>exact False.elim o1
  |exc _=>exact False.elim o1
  |dct _ _=>exact False.elim o1
theorem DW{a:E}{pa:Expr}{pos:Pos}(ha:GE X W F a pa):GE X W F (.not a) (.UnaryOp .Not pa pos):=
 (CG ha).imp fun σ H Q h=>by
  obtain⟨H0,G,env,sr,o⟩:=h
  rw [aA] at o;refine one sr o fun p v G1 H1 g1 t1 bD o1=>?_
  cases p with
  |bl b=>exact⟨b,t1.top.bl,o1 _ G1 H1 g1 (.of .b)⟩
  |int _=>exact False.elim o1
  |non=>exact False.elim o1
  |str _=>exact False.elim o1
  |tup _=>exact False.elim o1
  |lst _=>exact False.elim o1
  |exc _=>exact False.elim o1
  |dct _ _=>exact False.elim o1
theorem Ea{a:E}{pa:Expr}{pos:Pos}(ha:GT X W F a pa):GT X W F (.not a) (.UnaryOp .Not pa pos):=
 (Cu ha).imp fun σ H Q h=>by
  obtain⟨H0,G,env,sr,o⟩:=h
  rw [aA] at o;refine AN sr o fun b G1 H1 g1 bD o1=>?_
  obtain⟨b',e,q⟩:=o1
  cases e;exact q G1 H1 g1
theorem wW{a b:E}{pa pb:Expr}{r:List Expr}{pos:Pos}(he:eV b=true)(ha:GE X W F a pa)(hb:GE X W F b (.BoolOp .And (pb::r) pos)):GE X W F (.and a b) (.BoolOp .And (pa::pb::r) pos):=
 (C5 ha hb).imp fun σ H Q h=>by
  obtain⟨H0,G,env,sr,o⟩:=h
  rw [aA] at o;refine one sr o fun p v G1 H1 g1 t1 bD o1=>?_
  cases p with
  |bl t=>
   refine⟨t,t1.top.bl,?_⟩;cases t with
   |true=>
    rw [if_pos rfl];have oB:Out X W (aA F b env) σ G1 H1 _:=o1
    exact⟨H0,G1,env,bD,oB.imp fun p hp v G' H' g' t'=>hp v G' H' (g1.trans g') (.of (t'.rep he))⟩
   |false=>
    rw [if_neg zzf];have oB:Out X W (Res.ok (PV.bl false)) σ G1 H1 _:=o1
    exact oB _ G1 H1 g1 (.of .b)
  |int _=>exact False.elim o1
  |non=>exact False.elim o1
  |str _=>exact False.elim o1
  |tup _=>exact False.elim o1
  |lst _=>exact False.elim o1
  |exc _=>exact False.elim o1
  |dct _ _=>exact False.elim o1
theorem Bm{a b:E}{pa pb:Expr}{r:List Expr}{pos:Pos}(he:eV b=true)(ha:GE X W F a pa)(hb:GE X W F b (.BoolOp .Or (pb::r) pos)):GE X W F (.or a b) (.BoolOp .Or (pa::pb::r) pos):=
 (Fg ha hb).imp fun σ H Q h=>by
  obtain⟨H0,G,env,sr,o⟩:=h
  rw [aA] at o;refine one sr o fun p v G1 H1 g1 t1 bD o1=>?_
  cases p with
  |bl t=>
   refine⟨t,t1.top.bl,?_⟩;cases t with
   |false=>
    rw [if_neg zzf];have oB:Out X W (aA F b env) σ G1 H1 _:=o1
    exact⟨H0,G1,env,bD,oB.imp fun p hp v G' H' g' t'=>hp v G' H' (g1.trans g') (.of (t'.rep he))⟩
   |true=>
    rw [if_pos rfl];have oB:Out X W (Res.ok (PV.bl true)) σ G1 H1 _:=o1
    exact oB _ G1 H1 g1 (.of .b)
  |int _=>exact False.elim o1
  |non=>exact False.elim o1
  |str _=>exact False.elim o1
  |tup _=>exact False.elim o1
  |lst _=>exact False.elim o1
  |exc _=>exact False.elim o1
  |dct _ _=>exact False.elim o1
theorem xC{a b:E}{pa pb:Expr}{r:List Expr}{pos:Pos}(ha:GT X W F a pa)(hb:GW X W F b (.BoolOp .And (pb::r) pos)):GW X W F (.and a b) (.BoolOp .And (pa::pb::r) pos):=
 (pw_and ha hb).imp fun σ H Q h=>by
  obtain⟨H0,G,env,sr,o⟩:=h
  rw [aA] at o;refine AN sr o fun t G1 H1 g1 bD o1=>?_
  cases t with
  |true=>
   rw [if_pos rfl];have oB:Out X W (aA F b env) σ G1 H1 _:=o1
   exact⟨H0,G1,env,bD,oB.imp fun p hp=>by obtain⟨c,rfl,q⟩:=hp;exact⟨c,rfl,fun G' H' g'=>q G' H' (g1.trans g')⟩⟩
  |false=>
   rw [if_neg zzf];obtain⟨c,e,q⟩:=(show Out X W (Res.ok (PV.bl false)) σ G1 H1 _ from o1)
   cases e;exact q G1 H1 g1
theorem Bs{a b:E}{pa pb:Expr}{r:List Expr}{pos:Pos}(ha:GT X W F a pa)(hb:GW X W F b (.BoolOp .Or (pb::r) pos)):GW X W F (.or a b) (.BoolOp .Or (pa::pb::r) pos):=
 (pw_or ha hb).imp fun σ H Q h=>by
  obtain⟨H0,G,env,sr,o⟩:=h
  rw [aA] at o;refine AN sr o fun t G1 H1 g1 bD o1=>?_
  cases t with
  |false=>
   rw [if_neg zzf];have oB:Out X W (aA F b env) σ G1 H1 _:=o1
   exact⟨H0,G1,env,bD,oB.imp fun p hp=>by obtain⟨c,rfl,q⟩:=hp;exact⟨c,rfl,fun G' H' g'=>q G' H' (g1.trans g')⟩⟩
  |true=>
   rw [if_pos rfl];obtain⟨c,e,q⟩:=(show Out X W (Res.ok (PV.bl true)) σ G1 H1 _ from o1)
   cases e;exact q G1 H1 g1
theorem Co{c a b:E}{pc pa pb:Expr}{pos:Pos}(N1:eV a=true)(NH:eV b=true)(hc:GT X W F c pc)(ha:GE X W F a pa)(hb:GE X W F b pb):GE X W F (.ite c a b) (.IfExp pc pa pb pos):=
 (xu hc ha hb).imp fun σ H Q h=>by
  obtain⟨H0,G,env,sr,o⟩:=h
  rw [aA] at o;refine AN sr o fun t G1 H1 g1 bD o1=>?_
  cases t with
  |true=>
   rw [if_pos rfl];have oB:Out X W (aA F a env) σ G1 H1 _:=o1
   exact⟨H0,G1,env,bD,oB.imp fun p hp v G' H' g' t'=>hp v G' H' (g1.trans g') (.of (t'.rep N1))⟩
  |false=>
   rw [if_neg zzf];have oB:Out X W (aA F b env) σ G1 H1 _:=o1
   exact⟨H0,G1,env,bD,oB.imp fun p hp v G' H' g' t'=>hp v G' H' (g1.trans g') (.of (t'.rep NH))⟩
end
end Ci
namespace Ci
open PySem L2
section
variable{Γ:Pg}{X:Cx}{W:Wd}{F:bj}{N:List Str}{sc:Scope}{k:Nat}
noncomputable def tF(X:Cx)(W:Wd)(F:bj)(e:E):TE:=fun σ H Q=>∃H0 G env,SR W H0 env σ G H∧Out X W (aA F e env) σ G H fun p=>∃xs,p=.lst xs∧∀a vs G' H',aE W G H G' H'→H' a=none→ae W G' xs vs→Q (.ref a) (upd H' a (.lst vs))
abbrev GF(X:Cx)(W:Wd)(F:bj)(e:E)(p:Expr):Prop:=PE X p (tF X W F e)
theorem GF.ge{e:E}{p:Expr}(h:GF X W F e p)(hl:∀env q,aA F e env=.ok q→∃xs,q=.lst xs):GE X W F e p:=
 L2.PE.imp h fun σ H Q hq=>by
  obtain⟨H0,G,env,sr,o⟩:=hq
  refine⟨H0,G,env,sr,?_⟩;cases r:aA F e env with
  |bad=>rw [r] at o;exact o
  |exc c=>rw [r] at o;exact o
  |ok q=>
   rw [r] at o;obtain⟨xs,rfl⟩:=hl env q r
   exact⟨xs,rfl,fun a vs G' H' g ha l=>o _ _ _ (g.trans (.new g.sub ha)) (.of (.l (.inl (.inl ag)) (ae.same (bh (g.sub.free ha)) xs l)))⟩
theorem notStar{e:E}{p:Expr}(h:aS Γ N sc e p=true):∀env ps,starEach (p::ps) env=(false,eval p env)::starEach ps env:=by
 intro env ps;cases p<;>first|rfl|(cases e<;>first|(exact absurd h zzf)|(rename_i q;cases q<;>exact absurd h zzf))
theorem eU:∀{es:Es} {ps:List Expr},g8 Γ N sc es ps=true→∀env pos,(backTo pos (starEach ps env)).any (·.1)=false
 |.nil,[],_,_,_=>rfl
 |.cons e es,p::ps,h,env,pos=>by
  replace h:=aC h
  rw [notStar h.1];show(false||(backTo pos (starEach ps env)).any (·.1))=false
  rw [eU h.2]
  rfl
 |.nil,_::_,h,_,_=>absurd h zzf
 |.cons _ _,[],h,_,_=>absurd h zzf
abbrev GA(X:Cx)(W:Wd)(F:bj)(es:Es)(ps:List Expr):Prop:=PA X ps (tA X W F es)
theorem C9:GA X W F .nil []:=L2.PA.imp dg fun σ H Q h=>by
 obtain⟨H0,G,env,sr,o⟩:=h
 rw [aB] at o;exact o [] G H (.refl sr.sub) ⟨.nil,fun _=>.nil⟩
theorem zw{e:E}{es:Es}{p:Expr}{ps:List Expr}(he:GE X W F e p)(hs:GA X W F es ps)(dB:starEach (p::ps) X.env=(false,eval p X.env)::starEach ps X.env):GA X W F (.cons e es) (p::ps):=
 L2.PA.imp (bO he hs dB) fun σ H Q h=>by
  obtain⟨H0,G,env,sr,o⟩:=h
  rw [aB] at o;refine one sr o fun q v G1 H1 g1 t1 bD o1=>args bD o1 fun qs vs G2 H2 g2 t2 eX o2=>?_
  refine o2 (v::vs) G2 H2 (g1.trans g2) ⟨.cons (t1.top.grow g2) t2.top,fun z=>?_⟩
  unfold fv at z;rw [Bool.and_eq_true] at z;exact .cons (Rep.same g2.g q (t1.rep z.1)) (t2.rep z.2)
theorem gP:∀{es:Es} {env:Sl} {ps:List PV},aB F es env=.ok ps→ps.length=g6 es
 |.nil,env,ps,h=>by rw [aB] at h;cases h;rfl
 |.cons e es,env,ps,h=>by
  rw [aB] at h;obtain⟨p,_,h⟩:=Res.bind_ok h
  obtain⟨qs,hq,h⟩:=Res.bind_ok h
  cases h;rw [List.length_cons,gP hq]
  rfl
theorem C3{es:Es}{ps:List Expr}{x1:Nat}{pos:Pos}(vW:fv es=true)(hl:g6 es<1000)(h:GA X W F es ps):GE X W F (.tup es) (.Tuple ps x1 pos):=
 L2.PE.imp (Dl h) fun σ H Q hq=>by
  obtain⟨H0,G,env,sr,o⟩:=hq
  rw [aA] at o;have o':=o
  refine⟨H0,G,env,sr,?_⟩;cases r:aB F es env with
  |bad=>rw [r] at o;exact o
  |exc c=>rw [r] at o;exact o
  |ok qs=>
   rw [r] at o;have hlen:=gP r
   intro vs G1 H1 g1 t;have l:=t.rep vW
   refine⟨by rw [l.length,hlen];exact Nat.le_of_lt (Nat.lt_trans hl (by decide)),fun p hp=>?_⟩
   exact o _ _ _ (g1.trans (.new g1.sub hp)) (.of (.t (.inl ag) (ae.same (bh (g1.sub.free hp)) qs l)))
theorem wa{es:Es}{ps:List Expr}{pos:Pos}(vW:fv es=true)(hl:g6 es<1000)(h:GA X W F es ps):GF X W F (.lst es) (.List ps pos):=
 L2.PE.imp (BG h) fun σ H Q hq=>by
  obtain⟨H0,G,env,sr,o⟩:=hq
  rw [aA] at o;refine⟨H0,G,env,sr,?_⟩;cases r:aB F es env with
  |bad=>rw [r] at o;exact o
  |exc c=>rw [r] at o;exact o
  |ok qs=>
   rw [r] at o;have hlen:=gP r
   obtain⟨xs,e,o⟩:=o
   cases e;intro vs G1 H1 g1 t;have l:=t.rep vW
   exact⟨by rw [l.length,hlen];exact Nat.le_of_lt (Nat.lt_trans hl (by decide)),fun p hp=>o p vs G1 H1 g1 hp l⟩
theorem lst_is{es:Es}:∀env q,aA F (.lst es) env=.ok q→∃xs,q=.lst xs:=fun env q h=>by
 rw [aA] at h;obtain⟨ps,_,h⟩:=Res.bind_ok h
 cases h;exact⟨_,rfl⟩
theorem tR{p q:PV}(c:Str):aQ p q≠.exc c:=by
 unfold aQ;split
 ·exact Res.of_noexc c
 ·exact Res.of_noexc c
 ·split
  ·intro z;rcases Res.bind_exc z with z|⟨a,_,z⟩
   ·exact Res.of_noexc c z
   ·cases z
  ·exact fun z=>nomatch z
 ·intro z;rcases Res.bind_exc z with z|⟨a,_,z⟩
  ·exact Res.of_noexc c z
  ·exact Res.of_noexc c z
 ·exact fun z=>nomatch z
theorem CS(C:dw Γ F W N sc k X){a b:E}{pa pb:Expr}{pos:Pos}(ha:GE X W F a pa)(hb:GE X W F b pb)(hs:n0 pb):GE X W F (.sub a b) (.Subscript pa pb pos):=
 (Bi (Iz C.K C.room.units) ha hb hs).imp fun σ H Q h=>two (fun p q c=>tR c) (fun env=>by rw [aA]) h
theorem xW{e:E}{p:Expr}(h:aS Γ N sc e p=true):n0 p:=by
 intro o i;cases p<;>first|rfl|(cases e<;>first|(exact absurd h zzf)|(rename_i q;cases q<;>exact absurd h zzf))
theorem nR{e:E}{p:Expr}(h:aS Γ N sc e p=true)(op:CmpOp):behindInMarks op p=false:=by
 cases p<;>first|rfl|(cases e<;>first|(exact absurd h zzf)|(rename_i q;cases q<;>exact absurd h zzf))
theorem yr:PO X none (wK X W F .no):=fun pins s σ H Q I h=>AU pins s σ H Q I (by
 obtain⟨H0,G,env,sr,o⟩:=h
 rw [bU] at o;exact o G H (.refl sr.sub))
theorem AI{e:E}{p:Expr}(h:GE X W F e p):PO X (some p) (wK X W F (.some e)):=fun pins s σ H Q I hq=>yx h pins s σ H Q I (by
 obtain⟨H0,G,env,sr,o⟩:=hq
 rw [bU] at o;refine one sr o fun q v G1 H1 g1 t1 bD o1=>?_
 cases q with
 |int i=>exact⟨i,t1.top.int,o1 G1 H1 g1⟩
 |bl _=>exact False.elim o1
 |non=>exact False.elim o1
 |str _=>exact False.elim o1
 |tup _=>exact False.elim o1
 |lst _=>exact False.elim o1
 |exc _=>exact False.elim o1
 |dct _ _=>exact False.elim o1)
theorem pI{p:PV}{lo hi:Option Int}(c:Str):ic p lo hi≠.exc c:=by
 unfold ic;split
 ·exact fun z=>nomatch z
 ·exact fun z=>nomatch z
theorem xJ(C:dw Γ F W N sc k X){a:E}{lo hi:Oe}{pa:Expr}{pl ph:Option Expr}{p2 pos:Pos}(ha:GE X W F a pa)(hl:PO X pl (wK X W F lo))(hh:PO X ph (wK X W F hi)):GE X W F (.slice a lo hi) (.Subscript pa (.Slice pl ph none p2) pos):=
 (vJ (IZ C.K) ha hl hh).imp fun σ H Q h=>by
  obtain⟨H0,G,env,sr,o⟩:=h
  rw [aA] at o;refine one sr o fun p v G1 H1 g1 t1 bD o1=>?_
  refine⟨H0,G1,env,bD,o1.bind.imp fun l vo G2 H2 g2=>?_⟩
  refine⟨H0,G2,env,bD.grow g2,(vo.grow g2).bind.imp fun h' MX G3 H3 g3=>?_⟩
  obtain⟨r,hr,kr⟩:=(MX.grow g3).val (fun c=>pI c)
  exact⟨H0,G3,p,r,((bD.grow g2).grow g3).sub,t1.top.grow (g2.trans g3),hr,fun w G' H' g' gh=>kr w G' H' (((g1.trans g2).trans g3).trans g') (.of gh)⟩
theorem Ay{CX:qe}{f:Addr}{fd:FuncData}{ps:List Str}{sp:Sp}{E:XK}{pins:List (Addr×Obj)}{σ:St}{H:Hp}{s:Shared}{Q:VK}{us:List Value}{vs:List V}(FO:fj X.prog X.w X.K X.mg X.base CX k f fd ps sp)(hr:df k X.A)(hb:Binds X.K fd ps [])
 (hx:∀e s',CX X.stack H s E e s'→X.xe e s') (I:Inv X pins σ H s) (r:Vals vs us) (h:sp vs H Q E):wpAny (model X.prog X.w) X.A (call (.ref f) us) (EP X pins σ Q) X.xe s:=by
 have hl:us.length=ps.length:=by rw [←r.length];exact FO.len _ _ _ _ h
 have gL:=hb s us I.kIn (by rw [List.append_nil];exact hl)
 rw [List.append_nil] at gL;refine wpAny_call (codeAny_mono (FO.run X.A X.stack s H ⟨us,[]⟩ us vs Q E hr I.env0 gL r h) fun r s' hq=>?_)
 cases r with
 |error e=>exact hx e s' hq
 |ok fl=>
  cases fl with
  |ret u=>exact I.after hq
  |next=>exact False.elim hq
  |brk=>exact False.elim hq
  |cont=>exact False.elim hq
theorem A1.imp{P:Program}{w:World}{outer:List Env}{H:Hp}{s s':Shared}{E E':XK}{e:Value}(h:dC P w outer H s E e s')(i:∀C a H',E C a H'→E' C a H'):dC P w outer H s E' e s':=by
 obtain⟨a,C,t,vs,H',B,rfl,F⟩:=h
 exact⟨a,C,t,vs,H',B,rfl,⟨F.os,F.bare,F.hok,F.fly,F.tn,F.tup,F.keepB,F.thereB,F.un,i _ _ _ F.ends⟩⟩
theorem j0(hr:df k X.A){f:Str}{fa:Addr}{fd:FuncData}{pn:List Str}{q:Option (Str×List Nat)}{pins:List (Addr×Obj)}{σ:St}{G H:Hp}{s:Shared}{Q:VK}{us:List Value}{vs:List V}{as:List PV}
 (FO:fj X.prog X.w X.K X.mg X.base (dC X.prog X.w) k fa fd pn (vn W F f pn.length q)) (hb:Binds X.K fd pn []) (hlen:F f as≠.bad→vs.length=pn.length)
 (I:Inv X pins σ H s) (sg:ay G H) (tb:cb W G H) (l:v9 W G q as vs) (r:Vals vs us) (o:Out X W (F f as) σ G H fun p=>cL W G H p Q):wpAny (model X.prog X.w) X.A (call (.ref fa) us) (EP X pins σ Q) X.xe s:=by
 have xB:F f as≠.bad:=fun z=>by rw [z] at o;exact o
 refine Ay (E:=fun Cv ao H'=>∃c,F f as=.exc c∧XE W c G H Cv ao H') FO hr hb (fun e s' x=>?_) I r ⟨hlen xB,G,as,sg,tb,l,?_⟩
 ·cases z:F f as with
  |ok q=>
   obtain⟨a,C',t,vs,H',B,rfl,Fl⟩:=x
   obtain⟨c,e1,_⟩:=Fl.ends
   rw [z] at e1;cases e1
  |exc c=>
   rw [z] at o;refine o pins G H s e s' I (.refl sg) (A1.imp x fun C1 a H' y=>?_);obtain⟨c',e1,y⟩:=y
   rw [z] at e1;cases e1;exact y
  |bad=>exact absurd z xB
 ·cases z:F f as with
  |ok q=>
   rw [z] at o;exact fun v G' H' g' rp=>o v G' H' g' rp
  |exc c=>exact fun Cv ao H' x=>⟨c,rfl,x⟩
  |bad=>exact absurd z xB
theorem dw.rm(C:dw Γ F W N sc k X):df k X.A:=C.room.mono (Nat.le_succ k)
theorem AH(C:dw Γ F W N sc k X){f:Str}{e:E}{es:Es}{p:Expr}{ps:List Expr}{np pos:Pos}(hf:Γ.fs.contains f=true)(hg:f7 sc f=true)(ho:okN f=true)(vW:fv (.cons e es)=true)(ha:GA X W F (.cons e es) (p::ps))
 (dB:starEach (p::ps) X.env=(false,eval p X.env)::starEach ps X.env) (hpl:(backTo pos (starEach ps X.env)).any (·.1)=false):GE X W F (.call f (.cons e es)) (.Call (.Name f np) (p::ps) [] pos):=by
 intro pins s σ H Q I h;obtain⟨H0,G,env,sr,o⟩:=h
 rw [aA] at o;obtain⟨fa,fd,pn,FO,hm,hk,hb,hlen⟩:=(C.fns f hf).ex
 refine wpAny_Call_Name_kw (fY I (dR C hg) hm ?_ (cM ho).1);refine PySem.W.callWith_K (h₀:=X.base) I.ok.mod.kin hk (bC (ha pos pins s σ H (fun vs H1=>∃G1 as,ay G1 H1∧cb W G1 H1∧ae W G1 as vs∧Out X W (F f as) σ G1 H1 fun p=>cL W G1 H1 p Q) I ?_) fun us s1 ⟨vs,H1,I1,r,q⟩=>⟨I1.kIn,?_⟩) dB hpl
 ·refine args sr o fun as vs G1 H1 g1 t bD o1=>⟨G1,as,bD.sub,bD.tab,t.rep vW,o1.imp fun p hp v G' H' g' rp=>hp v G' H' (g1.trans g') (.of rp)⟩
 ·obtain⟨G1,as,sg,tb,l,o1⟩:=q
  exact j0 C.rm FO hb (fun z=>by rw [l.length];exact hlen as z) I1 sg tb l r o1
theorem wj(C:dw Γ F W N sc k X){f:Str}{np pos:Pos}(hf:Γ.fs.contains f=true)(hg:f7 sc f=true)(ho:okN f=true):GE X W F (.call f .nil) (.Call (.Name f np) [] [] pos):=by
 intro pins s σ H Q I h;obtain⟨H0,G,env,sr,o⟩:=h
 rw [aA,aB] at o;obtain⟨fa,fd,pn,FO,hm,hk,hb,hlen⟩:=(C.fns f hf).ex
 refine wpAny_Call_Name_kw (fY I (dR C hg) hm ?_ (cM ho).1);refine PySem.W.callWith_K0 I.kIn hk ?_;have o':Out X W (F f []) σ G H fun p=>∀v G' H',aE W G H G' H'→Got W H0 G' H' (.call f .nil) p v→Q v H':=o
 exact j0 (us:=[]) (vs:=[]) (as:=[]) (q:=none) C.rm FO hb (fun z=>hlen [] z) I sr.sub sr.tab (show ae W G [] [] from .nil) .nil (o'.imp fun p hp v G' H' g' rp=>hp v G' H' g' (.of rp))
theorem uV{b:B}{ps:List PV}(c:Str):cR b ps≠.exc c:=by
 cases b
 case len => show rk ps≠_;unfold rk;repeat' split
             all_goals exact fun z=>nomatch z
 case abs=>show xg ps≠_;unfold xg;split<;>exact fun z=>nomatch z
 case max2=>show wy ps≠_;unfold wy;split<;>exact fun z=>nomatch z
 case int=>
  show vO ps≠_
  unfold vO;split
  ·split
   ·intro z;rcases Res.bind_exc z with z|⟨a,_,z⟩
    ·exact Res.of_noexc c z
    ·cases z
   ·exact fun z=>nomatch z
  ·exact fun z=>nomatch z
 case str => show wX ps≠_;unfold wX;repeat' split
             all_goals exact fun z=>nomatch z
 case all=>
  show xX ps≠_
  unfold xX;split
  ·intro z;rcases Res.bind_exc z with z|⟨a,_,z⟩
   ·exact Res.of_noexc c z
   ·cases z
  ·exact fun z=>nomatch z
 case sum=>
  show vG ps≠_
  unfold vG;split
  ·intro z;rcases Res.bind_exc z with z|⟨a,_,z⟩
   ·exact Res.of_noexc c z
   ·split at z<;>cases z
  ·exact fun z=>nomatch z
 case sorted=>
  show g7 ps≠_
  unfold g7;split
  ·intro z;rcases Res.bind_exc z with z|⟨a,_,z⟩
   ·exact Res.of_noexc c z
   ·split at z<;>cases z
  ·split<;>exact fun z=>nomatch z
  ·exact fun z=>nomatch z
 case dict=>
  show oz ps≠_
  unfold oz;split
  ·intro z;rcases Res.bind_exc z with z|⟨a,_,z⟩
   ·exact Res.of_noexc c z
   ·cases z
  ·exact fun z=>nomatch z
theorem DB(C:dw Γ F W N sc k X)(b:B){e:Expr}{es:List Expr}{t:TA}{np pos:Pos}(hg:f7 sc (bN b)=true)(hm:Γ.bs.contains (bN b)=true)(ha:PA X (e::es) t)
 (he:starEach (e::es) X.env=(false,eval e X.env)::starEach es X.env) (hpl:(backTo pos (starEach es X.env)).any (·.1)=false):PE X (.Call (.Name (bN b) np) (e::es) [] pos) (HC (wU W (cR b)) t):=by
 have pM:=C.bs _ (List.contains_iff_mem.mp hm)
 have qt:=dR C hg
 cases b
 case len=>exact dH (uQ C.K) qt pM PySem.boot_len ha (he:=he) (hpl:=hpl)
 case abs=>exact dH uP qt pM (by decide+kernel) ha (he:=he) (hpl:=hpl)
 case max2=>exact dH (vj C.calm) qt pM (by decide+kernel) ha (he:=he) (hpl:=hpl)
 case int=>exact iH vc qt pM (by decide+kernel) ha (he:=he) (hpl:=hpl)
 case str=>exact iH ud qt pM (by decide+kernel) ha (he:=he) (hpl:=hpl)
 case all=>exact dH (tP C.calm C.K) qt pM (by decide+kernel) ha (he:=he) (hpl:=hpl)
 case sum=>exact dH (ug C.calm C.K) qt pM (by decide+kernel) ha (he:=he) (hpl:=hpl)
 case sorted=>exact dH (mO C.K C.calm) qt pM (by decide+kernel) ha (he:=he) (hpl:=hpl)
 case dict=>exact iH (pN C.K C.calm C.room.units) qt pM (by decide+kernel) ha (he:=he) (hpl:=hpl)
theorem C7{op:List PV→Res PV}{es:Es}{e:E}{σ:St}{H:Hp}{Q:VK}(hn:∀ps c,op ps≠.exc c)(he:∀env,aA F e env=(aB F es env).bind fun ps=>op ps)(h:tE X W F e σ H Q):HC (wU W op) (tA X W F es) σ H Q:=by
 obtain⟨H0,G,env,sr,o⟩:=h
 rw [he] at o;refine args sr o fun ps vs G1 H1 g1 t bD o1=>?_
 obtain⟨r,hr,kr⟩:=o1.val (hn ps)
 exact⟨H0,G1,ps,r,bD.sub,t.top,hr,fun w G' H' g' gh=>kr w G' H' (g1.trans g') (.of gh)⟩
theorem DD(C:dw Γ F W N sc k X)(b:B){es:Es}{e:Expr}{ps:List Expr}{np pos:Pos}(hg:f7 sc (bN b)=true)(hm:Γ.bs.contains (bN b)=true)(ha:GA X W F es (e::ps))
 (he:starEach (e::ps) X.env=(false,eval e X.env)::starEach ps X.env) (hpl:(backTo pos (starEach ps X.env)).any (·.1)=false):GE X W F (.blt b es) (.Call (.Name (bN b) np) (e::ps) [] pos):=
 (DB C b hg hm ha he hpl).imp fun σ H Q h=>C7 (fun ps c=>uV c) (fun env=>by rw [aA]) h
end
end Ci
namespace Ci
open PySem L2
section
variable{Γ:Pg}{X:Cx}{W:Wd}{F:bj}{N:List Str}{sc:Scope}{k:Nat}
theorem yc{t:Ty}{p:PV}(c:Str):aJ t p≠.exc c:=by
 cases p<;>exact fun z=>nomatch z
theorem DN(C:dw Γ F W N sc k X)(t:Ty){pos:Pos}(hg:f7 sc (Str.ofString (qx t))=true)(hm:Γ.bs.contains (Str.ofString (qx t))=true):PE X (.Name (Str.ofString (qx t)) pos) (tC (.ty (qx t))):=by
 have pM:=C.bs _ (List.contains_iff_mem.mp hm)
 have qt:=dR C hg
 cases t
 all_goals exact z9 qt pM (u:=.type _) (by decide+kernel) rfl (by decide+kernel) (by decide+kernel)
theorem Be(C:dw Γ F W N sc k X){t:Ty}{a:E}{pa:Expr}{np tp pos:Pos}(hi:f7 sc "isinstance"=true)(hb:Γ.bs.contains "isinstance"=true)(hg:f7 sc (Str.ofString (qx t))=true)(hm:Γ.bs.contains (Str.ofString (qx t))=true)(ha:GE X W F a pa)
 (dB:∀env ps,starEach (pa::ps) env=(false,eval pa env)::starEach ps env):GE X W F (.ty t a) (.Call (.Name "isinstance" np) [pa,.Name (Str.ofString (qx t)) tp] [] pos):=by
 refine(dH (wO C.K t) (dR C hi) (C.bs _ (List.contains_iff_mem.mp hb)) (by decide+kernel) (bO ha (bO (DN C t hg hm) dg) (dB _ _)) (he:=dB _ _)).imp fun σ H Q h=>?_
 obtain⟨H0,G,env,sr,o⟩:=h
 rw [aA] at o;refine one sr o fun p v G1 H1 g1 t1 bD o1=>?_
 obtain⟨r,hr,kr⟩:=o1.val (fun c=>yc c)
 exact⟨v,H0,G1,p,r,rfl,bD.sub,t1.top,hr,fun w G' H' g' gh=>kr w G' H' (g1.trans g') (.of gh)⟩
end
end Ci
namespace Ci
open PySem L2
section
variable{Γ:Pg}{X:Cx}{W:Wd}{F:bj}{N:List Str}{sc:Scope}{k:Nat}
theorem SR.set{H0 G H:Hp}{env:Sl}{σ:St}{p:PV}{v:V}(i:Nat)(r:SR W H0 env σ G H)(h:Rep W G p v):SR W H0 (env.set i (.val p)) (σ.set i (some v)) G H where
 len:=by simpa using r.len
 sub:=r.sub
 tab:=r.tab
 tab0:=r.tab0
 base:=r.base
 slot:=fun j s e=>by
  by_cases hj:i=j
  ·subst hj;have bW:i<env.length:=by
    have:=(List.getElem?_eq_some_iff.mp e).1
    simpa using this
   rw [List.getElem?_set_self bW] at e;cases e;exact⟨some v,List.getElem?_set_self (by rw [←r.len];exact bW),v,rfl,h⟩
  ·rw [List.getElem?_set_ne hj] at e;obtain⟨o,h1,h2⟩:=r.slot j s e
   exact⟨o,by rw [List.getElem?_set_ne hj];exact h1,h2⟩
 apart:=fun a b q q' ad e1 e2 e3 e4=>by
  have ne:∀{c:Nat} {q:PV},(env.set i (.val p))[c]?=some (.own q)→i≠c:=fun{c q} e z=>by
   subst z;have bW:i<env.length:=by
    have:=(List.getElem?_eq_some_iff.mp e).1
    simpa using this
   rw [List.getElem?_set_self bW] at e;cases e
  have n1:=ne e1
  have n2:=ne e2
  rw [List.getElem?_set_ne n1] at e1 e3;rw [List.getElem?_set_ne n2] at e2 e4;exact r.apart a b q q' ad e1 e2 e3 e4
noncomputable def gT(K:PySem.W.Frag):Tg→TG
 |.one i=>gb i
 |.two i j=>GL K 2 (yh (gb i) (yh (gb j) FP))
theorem qo{K:PySem.W.Frag}(hK:W.K=K){tg:Tg}{H0 G H:Hp}{env aH:Sl}{σ:St}{p:PV}{v:V}{Q:St→Hp→Prop}(e:Tg.put tg p env=.ok aH)(r:SR W H0 env σ G H)(h:Rep W G p v)(hq:∀σ',SR W H0 aH σ' G H→Q σ' H):gT K tg v σ H Q:=by
 unfold Tg.put at e;split at e
 ·cases e;exact hq _ (r.set _ h)
 ·cases e;simp only [Rep] at h;obtain⟨a,vs,rfl,sq,l⟩:=h
  obtain⟨v1,r1,rfl,h1,l⟩:=l.uncons
  obtain⟨v2,r2,rfl,h2,l⟩:=l.uncons
  simp only [ae] at l;subst l;rw [hK] at sq;exact⟨a,_,rfl,ay.tup r.sub sq.sq,rfl,_,_,rfl,_,_,rfl,rfl,hq _ ((r.set _ h1).set _ h2)⟩
 ·cases e
theorem vP{x:Str}(hsc:X.env.scope=sc)(h:di sc x=true):Loc X.env.scope x:=by
 rw [hsc];unfold di at h;simp only [Bool.or_eq_true,beq_iff_eq] at h;exact h
theorem yg{fn:Str→Bool}{tg:Tg}{p:Expr}(hN:X.N=N)(nd:N.Nodup)(hsc:X.env.scope=sc)(hc:X.calm=true)(oM:∀x,fn x=true→X.fn x=true)(h:fK N sc fn tg p=true):PG X p (gT X.K tg):=by
 have nm:∀{i:Nat} {x:Str} {pos:Pos},(N[i]?==some x&&di sc x&&(fn x||sc.names.lookup x==some .local))=true→PG X (.Name x pos) (gb i):=fun{i x pos} h=>by
  simp only [Bool.and_eq_true,beq_iff_eq,Bool.or_eq_true] at h;refine yP (by rw [hN];exact nd) (by rw [hN];exact h.1.1) (vP hsc h.1.2) ?_;rcases h.2 with z|z
  ·exact .inl (oM x z)
  ·exact .inr (by rw [hsc];exact z)
 unfold fK at h;split at h
 ·exact nm h
 ·rw [Bool.and_eq_true] at h;exact BW hc (p9 (nm h.1) (p9 (nm h.2) Af))
 ·cases h
def nX(W:Wd)(J:It)(G B:Hp)(ps:List PV):Prop:=∀(i:Nat) (G' H':Hp),ay G G'→gj B H'→ay G' H'→
 (i=ps.length→J.stop i H')∧∀p,ps[i]?=some p→J.go i H'∧∀x kZ,J.yld i H' x kZ→∃sf,aE W G' H' sf kZ∧Rep W sf p x
structure Hc(W:Wd)(G H:Hp)(it:I)(J:It)(ps:List PV):Prop where
 any:nX W J G H ps
 frz:yC it=true→nX W J G G ps
noncomputable def tI(X:Cx)(W:Wd)(F:bj)(it:I):TI:=fun σ H R=>∃H0 G env,SR W H0 env σ G H∧Out X W (bS F it env) σ G H fun ps=>∀J G' H',aE W G H G' H'→Hc W G' H' it J ps→R J H'
abbrev GI(X:Cx)(W:Wd)(F:bj)(tg:Expr)(it:I)(p:Expr):Prop:=PI X tg p (tI X W F it)
theorem sj(hK:W.K=X.K){G B:Hp}{a:Addr}{vs:List V}{ps:List PV}(h:LsR W.K B a vs)(l:ae W G ps vs):nX W (Ib X.K a) G B ps:=fun i G' H' sG sB sub=>by
 have hq:eh X.K H' a vs:=dI hK (gj.ls sB h)
 refine⟨fun hi=>⟨vs,hq,by rw [l.length];omega⟩,fun p hp=>?_⟩
 obtain⟨v,hv,rv⟩:=l.getP hp
 refine⟨⟨vs,v,hq,hv⟩,fun x kZ hy=>?_⟩
 obtain⟨rfl,hy⟩:=hy
 have:=hy vs hq
 rw [hv] at this;cases this;exact⟨G',.refl sub,Rep.same sG p rv⟩
theorem wx{K:PySem.W.Frag}{G B:Hp}{a:Addr}{vs:List V}{ps:List PV}(h:ez K B a vs)(l:ae W G ps vs):nX W (JA K a) G B ps:=fun i G' H' sG sB sub=>by
 have hq:ez K H' a vs:=gj.tup sB h
 refine⟨fun hi=>⟨vs,hq,by rw [l.length];omega⟩,fun p hp=>?_⟩
 obtain⟨v,hv,rv⟩:=l.getP hp
 refine⟨⟨vs,v,hq,hv⟩,fun x kZ hy=>?_⟩
 obtain⟨rfl,hy⟩:=hy
 have:=hy vs hq
 rw [hv] at this;cases this;exact⟨G',.refl sub,Rep.same sG p rv⟩
theorem vU{G B:Hp}{a:Addr}{o:Obj}{ks:List (List Int)}{us:List V}(n:ks.length=us.length)(h:B a=some (.frz o (.dT (kz ks us)))):nX W (I0 a o (kz ks us)) G B (ks.map ah):=fun i G' H' sG sB sub=>by
 have hq:H' a=some (.frz o (.dT (kz ks us))):=sB.at h (fun _ z=>nomatch z)
 refine⟨fun hi=>⟨hq,by rw [eN n];rw [List.length_map] at hi;omega⟩,fun p hp=>?_⟩
 rw [List.getElem?_map] at hp;obtain⟨k,hk,rfl⟩:=Option.map_eq_some_iff.mp hp
 have hi:i<ks.length:=(List.getElem?_eq_some_iff.mp hk).1
 refine⟨⟨hq,by rw [eN n];exact hi⟩,fun x kZ hy=>?_⟩
 obtain⟨rfl,b,k',v,rfl,e2,e3⟩:=hy
 have ek:k'=ki k:=by
  have:=congrArg (fun l=>l[i]?) (m7 (us:=us) n)
  simp only [List.getElem?_map,e2,hk,Option.map_some] at this;exact Option.some.inj this
 rw [ek,nY] at e3;obtain⟨G2,g2,l2⟩:=fU (W:=W) (vs:=[.ref b]) (nss:=[k]) sub (.cons ⟨b,rfl,e3⟩ .nil)
 obtain⟨w,r,ew,hw,_⟩:=l2.uncons
 cases ew;exact⟨G2,g2,hw⟩
theorem uD{z:Str}{i:Nat}{p:PV}(h:(chars z)[i]?=some p):∃c,z.cps[i]?=some c∧p=.str ⟨#[c]⟩:=by
 unfold chars at h;rw [List.getElem?_map] at h;obtain⟨c,hc,rfl⟩:=Option.map_eq_some_iff.mp h
 rw [Array.getElem?_toList] at hc;exact⟨c,hc,rfl⟩
theorem uq(z:Str):(chars z).length=z.cps.size:=by unfold chars;rw [List.length_map,Array.length_toList]
theorem nM{G B:Hp}(lo:Int)(n:Nat):nX W (E6 lo n) G B (mC lo n):=fun i G' H' sG sB sub=>by
 unfold mC;refine⟨fun hi=>by rw [List.length_map,List.length_range] at hi;exact Nat.le_of_eq hi.symm,fun p hp=>?_⟩
 rw [List.getElem?_map] at hp;obtain⟨c,hc,rfl⟩:=Option.map_eq_some_iff.mp hp
 obtain⟨h1,h2⟩:=List.getElem?_eq_some_iff.mp hc
 rw [List.length_range] at h1;rw [List.getElem_range] at h2;subst h2;refine⟨h1,fun x kZ hy=>?_⟩
 obtain⟨rfl,rfl⟩:=hy
 exact⟨G',.refl sub,.i⟩
theorem j5{G H:Hp}{p q:PV}{v u:V}{a:Addr}(sub:ay G H)(ha:H a=none)(h1:Rep W G p v)(h2:Rep W G q u):∃sf,aE W G H sf (upd H a (.tup [v,u]))∧Rep W sf (.tup [p,q]) (.ref a):=
 ⟨_,.new sub ha,.t (.inl ag) (ae.same (bh (sub.free ha)) _ (.cons h1 (.cons h2 .nil)))⟩
theorem j6:∀{xs:List PV} {n i:Nat} {p:PV},(gf n xs)[i]?=some p→∃x,xs[i]?=some x∧p=.tup [.int ((n+i:Nat):Int),x]
 |[],_,_,_,h=>by simp [gf] at h
 |x::xs,n,0,p,h=>by simp [gf] at h;exact⟨x,rfl,by rw [←h];simp⟩
 |x::xs,n,i+1,p,h=>by
  simp only [gf,List.getElem?_cons_succ] at h;obtain⟨y,h1,h2⟩:=j6 h
  exact⟨y,by simpa using h1,by rw [h2,show n+1+i=n+(i+1) by omega]⟩
theorem kA:∀(xs:List PV) (n:Nat),(gf n xs).length=xs.length
 |[],_=>rfl
 |_::xs,n=>by simp only [gf,List.length_cons,kA xs]
theorem pK{K:PySem.W.Frag}{G B:Hp}{a:Addr}{vs:List V}{ps:List PV}(h:ez K B a vs)(l:ae W G ps vs):nX W (J6 K a vs) G B (gf 0 ps):=fun i G' H' sG sB sub=>by
 have hq:ez K H' a vs:=gj.tup sB h
 refine⟨fun hi=>⟨hq,by rw [kA] at hi;rw [l.length];exact hi⟩,fun p hp=>?_⟩
 obtain⟨x,hx,rfl⟩:=j6 hp
 obtain⟨v,hv,rv⟩:=l.getP hx
 refine⟨⟨hq,(List.getElem?_eq_some_iff.mp hv).1⟩,fun y kZ hy=>?_⟩
 obtain⟨b,x',rfl,hb,rfl,vp⟩:=hy
 rw [hv] at vp;cases vp;rw [Nat.zero_add];exact j5 sub hb .i (Rep.same sG x rv)
theorem oy{G B:Hp}(z:Str):nX W (Hl z) G B (gf 0 (chars z)):=fun i G' H' sG sB sub=>by
 refine⟨fun hi=>by rw [kA,uq] at hi;exact hi,fun p hp=>?_⟩
 obtain⟨x,hx,rfl⟩:=j6 hp
 obtain⟨c,hc,rfl⟩:=uD hx
 refine⟨(Array.getElem?_eq_some_iff.mp hc).1,fun y kZ hy=>?_⟩
 obtain⟨b,c',rfl,hb,rfl,gq⟩:=hy
 rw [hc] at gq;cases gq;rw [Nat.zero_add];exact j5 sub hb .i .s
theorem zip_get:∀{xs ys:List PV} {i:Nat} {p:PV},(ja xs ys)[i]?=some p→∃x y,xs[i]?=some x∧ys[i]?=some y∧p=.tup [x,y]
 |[],_,_,_,h=>by simp [ja] at h
 |_::_,[],_,_,h=>by simp [ja] at h
 |x::xs,y::ys,0,p,h=>by simp [ja] at h;exact⟨x,y,rfl,rfl,h.symm⟩
 |x::xs,y::ys,i+1,p,h=>by
  simp only [ja,List.getElem?_cons_succ] at h;obtain⟨a,b,h1,h2,h3⟩:=zip_get h
  exact⟨a,b,by simpa using h1,by simpa using h2,h3⟩
theorem tm:∀(xs ys:List PV),(ja xs ys).length=min xs.length ys.length
 |[],_=>by simp [ja]
 |_::_,[]=>by simp [ja]
 |_::xs,_::ys=>by simp only [ja,List.length_cons,tm xs ys];omega
theorem rB(hK:W.K=X.K){G B:Hp}{a b:Addr}{vs us:List V}{ps qs:List PV}(h:LsR W.K B a vs)(h2:LsR W.K B b us)(l:ae W G ps vs)(l2:ae W G qs us):nX W (IM X.K a b vs us) G B (ja ps qs):=fun i G' H' sG sB sub=>by
 have hq:eh X.K H' a vs:=dI hK (gj.ls sB h)
 have Hi:eh X.K H' b us:=dI hK (gj.ls sB h2)
 refine⟨fun hi=>⟨hq,Hi,by rw [tm] at hi;rw [l.length,l2.length];omega⟩,fun p hp=>?_⟩
 obtain⟨x,y,hx,hy,rfl⟩:=zip_get hp
 obtain⟨v,hv,rv⟩:=l.getP hx
 obtain⟨u,hu,ru⟩:=l2.getP hy
 refine⟨⟨hq,Hi,(List.getElem?_eq_some_iff.mp hv).1,(List.getElem?_eq_some_iff.mp hu).1⟩,fun w kZ hy=>?_⟩
 obtain⟨b',x',y',rfl,hb,rfl,vp,vx⟩:=hy
 rw [hv] at vp;cases vp;rw [hu] at vx;cases vx;exact j5 sub hb (Rep.same sG x rv) (Rep.same sG y ru)
theorem fh{e:E}{σ:St}{H0 G H:Hp}{env:Sl}{Q:VK}{p:PV}(sr:SR W H0 env σ G H)(e1:aA F e env=.ok p)(h:∀v G1 H1,aE W G H G1 H1→Got W H0 G1 H1 e p v→Q v H1):tE X W F e σ H Q:=⟨H0,G,env,sr,by rw [e1];exact h⟩
theorem wb{e:E}{σ:St}{H0 G H:Hp}{env:Sl}{Q:VK}{c:Str}(sr:SR W H0 env σ G H)(e1:aA F e env=.exc c)(h:q8 X W σ c G H):tE X W F e σ H Q:=⟨H0,G,env,sr,by rw [e1];exact h⟩
theorem Dm(C:dw Γ F W N sc k X){tg p:Expr}{e:E}(he:GE X W F e p):GI X W F tg (.seq e) p:=by
 intro pins s σ H R I h;obtain⟨H0,G,env,sr,o⟩:=h
 rw [bS] at o;cases r:aA F e env with
 |bad=>rw [r] at o;exact o.elim
 |exc c=>rw [r] at o;exact sx he pins s σ H R I (wb sr r o)
 |ok q=>
  rw [r] at o;cases q with
  |lst xs=>
   refine sx he pins s σ H R I (fh sr r fun v G1 H1 g1 t=>?_);have t':=t
   obtain⟨a,vs,rfl,h1,l1⟩:=t.top.lst g1.sub
   refine⟨a,rfl,⟨vs,dI C.K h1⟩,o _ G1 H1 g1 ⟨sj C.K h1 l1,fun z=>?_⟩⟩
   have rp:=t'.rep z
   simp only [Rep] at rp;obtain⟨a',vs',e1,h2,l2⟩:=rp
   cases e1;exact sj C.K h2 l2
  |tup xs=>
   refine Cf he pins s σ H R I (fh sr r fun v G1 H1 g1 t=>?_);have t':=t
   obtain⟨a,vs,rfl,h1,l1⟩:=t.top.tup g1.sub
   rw [C.K] at h1;refine⟨a,rfl,⟨vs,h1⟩,o _ G1 H1 g1 ⟨wx h1 l1,fun z=>?_⟩⟩
   have rp:=t'.rep z
   simp only [Rep] at rp;obtain⟨a',vs',e1,h2,l2⟩:=rp
   cases e1;rw [C.K] at h2;exact wx h2.sq l2
  |str z=>exact False.elim o
  |int _=>exact False.elim o
  |bl _=>exact False.elim o
  |non=>exact False.elim o
  |exc _=>exact False.elim o
  |dct ks qs=>
   by_cases D7:eV e=true
   ·have Ny:vf e (.dct ks qs)=.ok (ks.map ah):=by
     cases e<;>first|rfl|exact absurd D7 zzf
    have o2:Out X W (vf e (.dct ks qs)) σ G H fun ps=>∀(J:It) (G' H':Hp),aE W G H G' H'→Hc W G' H' (Ci.I.seq e) J ps→R J H':=o
    rw [Ny] at o2;refine CU he pins s σ H R I (fh sr r fun v G1 H1 g1 t=>?_);have rp:=t.rep D7
    simp only [Rep] at rp;obtain⟨a,ob,us,rfl,n,h1,l1⟩:=rp
    exact⟨a,ob,_,rfl,g1.sub _ _ h1,o2 _ G1 H1 g1 ⟨vU n (g1.sub _ _ h1),fun _=>vU n h1⟩⟩
   ·have:∃i,e=.tmp i:=by
     cases e<;>first|exact⟨_,rfl⟩|exact absurd rfl D7
    obtain⟨i,rfl⟩:=this
    exact False.elim o
theorem cZ{i:Int}(h:bG i=true): -(2^62)≤i∧i<2^62:=by
 unfold bG at h
 simpa using h
theorem B9(C:dw Γ F W N sc k X){tg p:Expr}{e:E}{np pos:Pos}(hg:f7 sc "range"=true)(hb:Γ.bs.contains "range"=true)(dB:∀env ps,starEach (p::ps) env=(false,eval p env)::starEach ps env)(he:GE X W F e p):GI X W F tg (.rng e) (.Call (.Name "range" np) [p] [] pos):=by
 intro pins s σ H R I h;refine uk (dR C hg) (C.bs _ (List.contains_iff_mem.mp hb)) (bO he dg (dB _ _)) (dB _ _) pins s σ H R I ?_;obtain⟨H0,G,env,sr,o⟩:=h
 rw [bS] at o;refine one sr o fun q v G1 H1 g1 t bD o1=>?_
 cases q with
 |int j=>
  by_cases hj:bG j=true
  ·have o2:Out X W (if bG j=true then Res.ok (mC 0 j.toNat) else .bad) σ G1 H1 _:=o1
   rw [if_pos hj] at o2;exact⟨j,by rw [t.top.int],(cZ hj).1,(cZ hj).2,o2 _ G1 H1 g1 ⟨nM _ _,fun _=>nM _ _⟩⟩
  ·have o2:Out X W (if bG j=true then Res.ok (mC 0 j.toNat) else .bad) σ G1 H1 _:=o1
   rw [if_neg hj] at o2;exact o2.elim
 |bl _=>exact False.elim o1
 |non=>exact False.elim o1
 |str _=>exact False.elim o1
 |tup _=>exact False.elim o1
 |lst _=>exact False.elim o1
 |exc _=>exact False.elim o1
 |dct _ _=>exact False.elim o1
theorem zQ(C:dw Γ F W N sc k X){tg p q:Expr}{a b:E}{np pos:Pos}(hg:f7 sc "range"=true)(hb:Γ.bs.contains "range"=true)(dB:∀env ps,starEach (p::ps) env=(false,eval p env)::starEach ps env)(qM:∀env ps,starEach (q::ps) env=(false,eval q env)::starEach ps env)
 (ha:GE X W F a p) (gL:GE X W F b q):GI X W F tg (.rng2 a b) (.Call (.Name "range" np) [p,q] [] pos):=by
 intro pins s σ H R I h;refine uC (dR C hg) (C.bs _ (List.contains_iff_mem.mp hb)) (bO ha (bO gL dg (qM _ _)) (dB _ _)) (by rw [dB,qM];rfl) (qM _ _) pins s σ H R I ?_;obtain⟨H0,G,env,sr,o⟩:=h
 rw [bS] at o;refine one sr o fun x v G1 H1 g1 t bD o1=>one bD o1 fun y u G2 H2 g2 t2 eX o2=>?_
 cases x<;>cases y<;>first
  |(exact False.elim o2)
  | (rename_i i j
     by_cases hj:(bG i&&bG j)=true
     ·have o3:Out X W (if(bG i&&bG j)=true then Res.ok (mC i (j-i).toNat) else .bad) σ G2 H2 _:=o2
      rw [if_pos hj] at o3;rw [Bool.and_eq_true] at hj;exact⟨i,j,by rw [t.top.int,t2.top.int],⟨(cZ hj.1).1,(cZ hj.1).2,(cZ hj.2).1,(cZ hj.2).2⟩,o3 _ G2 H2 (g1.trans g2) ⟨nM _ _,fun _=>nM _ _⟩⟩
     ·have o3:Out X W (if(bG i&&bG j)=true then Res.ok (mC i (j-i).toNat) else .bad) σ G2 H2 _:=o2
      rw [if_neg hj] at o3;exact o3.elim)
theorem Ab(C:dw Γ F W N sc k X){elts:List Expr}{x1:Nat}{iF:Pos}{p:Expr}{e:E}{np pos:Pos}(hg:f7 sc "enumerate"=true)(hb:Γ.bs.contains "enumerate"=true)(dB:∀env ps,starEach (p::ps) env=(false,eval p env)::starEach ps env)(he:GE X W F e p):
 GI X W F (.Tuple elts x1 iF) (.enum e) (.Call (.Name "enumerate" np) [p] [] pos):=by
 intro pins s σ H R I h;have qt:=dR C hg
 have pM:=C.bs _ (List.contains_iff_mem.mp hb)
 have pa:=bO he dg (dB _ _)
 obtain⟨H0,G,env,sr,o⟩:=h
 rw [bS] at o;cases r:aA F e env with
 |bad=>rw [r] at o;exact o.elim
 |exc c=>rw [r] at o;exact pz qt pM pa (dB _ _) pins s σ H R I (wb sr r o)
 |ok q=>
  rw [r] at o;cases q with
  |lst xs=>exact False.elim o
  |tup xs=>
   refine pz qt pM pa (dB _ _) pins s σ H R I (fh sr r fun v G1 H1 g1 t=>?_);have t':=t.top
   rcases t' with rp|z
   ·simp only [Rep] at rp;obtain⟨a,vs,rfl,h2,l2⟩:=rp
    rw [C.K] at h2;exact⟨a,vs,rfl,ay.tup g1.sub h2.sq,o _ G1 H1 g1 ⟨pK (ay.tup g1.sub h2.sq) l2,fun z=>pK h2.sq l2⟩⟩
   ·exact z.elim
  |str z=>exact xP qt pM pa (dB _ _) pins s σ H R I (fh sr r fun v G1 H1 g1 t=>⟨z,by rw [t.top.str],o _ G1 H1 g1 ⟨oy z,fun _=>oy z⟩⟩)
  |int _=>exact False.elim o
  |bl _=>exact False.elim o
  |non=>exact False.elim o
  |exc _=>exact False.elim o
  |dct _ _=>exact False.elim o
theorem DY(C:dw Γ F W N sc k X){elts:List Expr}{x1:Nat}{iF:Pos}{p q:Expr}{a b:E}{np pos:Pos}(hg:f7 sc "zip"=true)(hb:Γ.bs.contains "zip"=true)(dB:∀env ps,starEach (p::ps) env=(false,eval p env)::starEach ps env)(qM:∀env ps,starEach (q::ps) env=(false,eval q env)::starEach ps env)
 (ha:GE X W F a p) (gL:GE X W F b q):GI X W F (.Tuple elts x1 iF) (.zip a b) (.Call (.Name "zip" np) [p,q] [] pos):=by
 intro pins s σ H R I h;refine CL (dR C hg) (C.bs _ (List.contains_iff_mem.mp hb)) (bO ha (bO gL dg (qM _ _)) (dB _ _)) (by rw [dB,qM];rfl) (qM _ _) pins s σ H R I ?_;obtain⟨H0,G,env,sr,o⟩:=h
 rw [bS] at o;refine one sr o fun x v G1 H1 g1 t bD o1=>one bD o1 fun y u G2 H2 g2 t2 eX o2=>?_
 cases x<;>cases y<;>first
  |(exact False.elim o2)
  | (rename_i xs ys
     have tt:=t.grow g2
     by_cases hz:(eV a&&eV b)=true
     ·have z':=hz
      rw [Bool.and_eq_true] at z';have rp:=tt.rep z'.1
      have Lu:=t2.rep z'.2
      simp only [Rep] at rp Lu;obtain⟨b1,vs,rfl,k1,m1⟩:=rp
      obtain⟨b2,us,rfl,k2,m2⟩:=Lu
      exact⟨b1,b2,vs,us,rfl,dI C.K (ay.ls g2.sub k1),dI C.K (ay.ls g2.sub k2),o2 _ G2 H2 (g1.trans g2) ⟨rB C.K (ay.ls g2.sub k1) (ay.ls g2.sub k2) m1 m2,fun _=>rB C.K k1 k2 m1 m2⟩⟩
     ·obtain⟨a1,vs,rfl,h1,l1⟩:=tt.top.lst g2.sub
      obtain⟨a2,us,rfl,h2,l2⟩:=t2.top.lst g2.sub
      exact⟨a1,a2,vs,us,rfl,dI C.K h1,dI C.K h2,o2 _ G2 H2 (g1.trans g2) ⟨rB C.K h1 h2 l1 l2,fun z=>absurd z hz⟩⟩)
end
end Ci
namespace Ci
open PySem L2
theorem vm{env:Env}{x:Str}{c:Addr}(h:env.cells.lookup x=some c):cellOf env x=pure c:=by
 unfold cellOf;rw [h]
def frees(names:List (Str×NameKind)):List Str:=((names.filter fun p=>p.2==.free).map (·.1)).reverse
theorem gz{scope:Scope}{env:Env}(h:∀y∈scope.names,y.2=.free→∃c,env.cells.lookup y.1=some c):closureFor scope env=pure (bz env (freeOf scope)):=by
 simp only [closureFor];have key:∀(names:List (Str×NameKind)) (acc:List (Str×Addr)),(∀y∈names,y.2=.free→∃c,env.cells.lookup y.1=some c)→
  (forIn (m:=Sem) names acc fun x r=>if(x.2==NameKind.free)=true then do
   let c←cellOf env x.1
   pure (ForInStep.yield ((x.1,c)::r))
   else pure (ForInStep.yield r))=pure (bz env (frees names)++acc):=by
  intro names
  induction names with
  |nil=>intro acc _;rfl
  |cons p r ih=>
   intro acc hh;obtain⟨n,kd⟩:=p
   rw [List.forIn_cons]
   by_cases hk:(kd==NameKind.free)=true
   ·obtain⟨c,hc⟩:=hh (n,kd) (by simp) (beq_iff_eq.mp hk)
    simp only [hk,if_true,vm hc,pure_bind];rw [ih ((n,c)::acc) fun y hy=>hh y (List.mem_cons_of_mem _ hy)]
    have e:frees ((n,kd)::r)=frees r++[n]:=by
     unfold frees;rw [List.filter_cons,if_pos hk,List.map_cons,List.reverse_cons]
    rw [e];unfold bz;rw [List.map_append,List.map_cons,List.map_nil,List.append_assoc];show _=pure (_++([(n,(env.cells.lookup n).getD 0)]++acc))
    rw [show env.cells.lookup n=some c from hc]
    rfl
   ·simp only [hk,Bool.false_eq_true,if_false,pure_bind];rw [ih acc fun y hy=>hh y (List.mem_cons_of_mem _ hy)]
    have e:frees ((n,kd)::r)=frees r:=by
     unfold frees;rw [List.filter_cons,if_neg hk]
    rw [e]
 have:=key scope.names [] h
 rw [List.append_nil] at this;simp only [bind_pure_comp,map_pure,id_map',bind_pure];exact this
section
variable{Γ:Pg}{X:Cx}{W:Wd}{F:bj}{N:List Str}{sc:Scope}{k:Nat}
theorem er{scope:Scope}(h:X.env.scope=sc):relabel scope X.env=cJ scope sc:=by
 subst h
 rfl
structure kL(N:List Str)(sc scope:Scope)(kk:Nat)(aU:List Nat)(xs:List Str):Prop where
 kind:scope.kind=.function
 len:xs.length=kk
 nd:(xs++freeOf scope).Nodup
 cov:(scope.names.all fun y=>(decide (y.2≠.cell)||!(freeOf scope).contains y.1)&&(decide (y.2≠.free)||(freeOf scope).contains y.1))=true
 own:(scope.names.all fun y=>decide (y.2≠.cell)||decide (scope.names.lookup y.1=some .cell))=true
 names:(scope.names.all fun y=>decide (y.2≠.local)||decide (scope.names.lookup y.1=some .local))=true
 slots:aU.map (fun i=>N[i]?)=(freeOf scope).map some
 kX:((freeOf scope).all fun y=>decide (sc.names.lookup y=some .cell))=true
 kY:((freeOf scope).all fun y=>decide ((cJ scope sc).names.lookup y=some .cell))=true
theorem hJ{scope:Scope}{kk:Nat}{aU:List Nat}{xs:List Str}(h:rV N sc scope kk aU xs=true):kL N sc scope kk aU xs:=by
 unfold rV at h;simp only [Bool.and_eq_true] at h;obtain⟨⟨⟨⟨⟨⟨⟨⟨h1,h2⟩,h3⟩,h4⟩,h9⟩,h5⟩,h6⟩,h7⟩,h8⟩:=h
 exact⟨beq_iff_eq.mp h1,beq_iff_eq.mp h2,of_decide_eq_true h3,h4,h9,h5,of_decide_eq_true h6,h7,h8⟩
theorem n9(hN:X.N=N)(hsc:X.env.scope=sc)(ok:X.Ok){scope:Scope}{kk:Nat}{aU:List Nat}{xs:List Str}(h:kL N sc scope kk aU xs):dX X scope xs (freeOf scope) aU:=by
 have dF:∀y∈freeOf scope,∃c,X.env.cells.lookup y=some c:=fun y hy=>ok.has y (.inl (by
  have:=of_decide_eq_true (List.all_eq_true.mp h.kX y hy)
  show X.env.scope.names.lookup y=_
  rw [hsc];exact this))
 refine⟨h.kind,gz fun y hy hf=>?_,List.all_eq_true.mpr fun y hy=>?_,h.cov,h.own,h.names,by rw [hN];exact h.slots,List.all_eq_true.mpr fun y hy=>?_,?_⟩
 ·have c:=List.all_eq_true.mp h.cov y hy
  rw [Bool.and_eq_true,Bool.or_eq_true,Bool.or_eq_true] at c;rcases c.2 with z|z
  ·exact absurd hf (of_decide_eq_true z)
  ·exact dF _ (List.contains_iff_mem.mp z)
 ·obtain⟨c,hc⟩:=dF y hy
  rw [hc];rfl
 ·have:=of_decide_eq_true (List.all_eq_true.mp h.kX y hy)
  refine decide_eq_true ?_;show X.env.scope.names.lookup y=_
  rw [hsc];exact this
 ·rw [er hsc];exact h.kY
theorem gC{f:PV→Res (Option PV)}{x:PV}:∀{xs:List PV},bB f (xs++[x])=(bB f xs).bind fun ys=>(f x).well.bind fun o=>.ok (ys++o.toList)
 |[]=>by
  simp only [List.nil_append,bB,Res.bind];cases(f x).well with
  |ok o=>cases o<;>rfl
  |exc c=>rfl
  |bad=>rfl
 |y::xs=>by
  rw [List.cons_append];simp only [bB];rw [gC (xs:=xs)];cases(f y).well with
  |exc c=>rfl
  |bad=>rfl
  |ok o=>
   show(((bB f xs).bind fun ys=>(f x).well.bind fun o=>.ok (ys++o.toList)).bind fun ys=>.ok (oc o ys))=((bB f xs).bind fun ys=>.ok (oc o ys)).bind fun ys=>(f x).well.bind fun o=>.ok (ys++o.toList)
   cases bB f xs with
   |exc c=>rfl
   |bad=>rfl
   |ok zs=>
    show(((f x).well.bind fun o=>.ok (zs++o.toList)).bind fun ys=>.ok (oc o ys))=(f x).well.bind fun o2=>.ok ((oc o zs)++o2.toList)
    cases(f x).well with
    |exc c=>rfl
    |bad=>rfl
    |ok o2=>cases o<;>rfl
theorem kE{f:PV→Res (Option PV)}:∀{xs ys:List PV},bB f xs=.ok ys→∀i,∃zs,bB f (xs.take i)=.ok zs∧zs.length≤i
 |_,_,_,0=>⟨[],by simp [bB],Nat.le_refl _⟩
 |[],ys,h,i+1=>⟨[],by simp [bB],Nat.zero_le _⟩
 |x::xs,ys,h,i+1=>by
  simp only [bB] at h;obtain⟨o,ho,h⟩:=Res.bind_ok h
  obtain⟨zs,hz,h⟩:=Res.bind_ok h
  obtain⟨ws,hw,hl⟩:=kE hz i
  refine⟨oc o ws,?_,?_⟩
  ·rw [List.take_succ_cons];simp only [bB];rw [ho];show((bB f (xs.take i)).bind fun ys=>.ok (oc o ys))=_
   rw [hw]
   rfl
  ·cases o with
   |none=>exact Nat.le_succ_of_le hl
   |some y=>exact Nat.succ_le_succ hl
theorem Av{α:Type}{r:Res α}{a:α}(h:r.well=.ok a):r=.ok a:=by
 cases r with
 |ok b=>cases h;rfl
 |exc c=>cases h
 |bad=>cases h
theorem pW{f:PV→Res (Option PV)}{xs ys zs:List PV}{i:Nat}{x:PV}(h:bB f xs=.ok ys)(hx:xs[i]?=some x)(hz:bB f (xs.take i)=.ok zs):∃o,f x=.ok o∧bB f (xs.take (i+1))=.ok (zs++o.toList):=by
 have e:xs.take (i+1)=xs.take i++[x]:=by rw [List.take_add_one,hx];rfl
 obtain⟨ws,hw,_⟩:=kE h (i+1)
 rw [e,gC,hz] at hw;obtain⟨o,ho,hw⟩:=Res.bind_ok (show((f x).well.bind fun o=>Res.ok (zs++o.toList))=.ok ws from hw)
 refine⟨o,Av ho,?_⟩;rw [e,gC,hz];show((f x).well.bind fun o=>Res.ok (zs++o.toList))=_
 rw [ho]
 rfl
theorem oZ{H0 G H:Hp}{env:Sl}{σ:St}{aU:List Nat}{ys:List Str}(kk:Nat)(sr:SR W H0 env σ G H)(hs:aU.map (fun i=>N[i]?)=ys.map some)(nd:ys.Nodup):SR W H0 (List.replicate kk .no++aF env aU) (List.replicate kk none++xS σ aU) G H:=by
 have NY:∀(i j:Nat) (a:Nat),aU[i]?=some a→aU[j]?=some a→i=j:=fun i j a h1 h2=>by
  have e1:(ys.map some)[i]?=some (N[a]?):=by rw [←hs,List.getElem?_map,h1];rfl
  have e2:(ys.map some)[j]?=some (N[a]?):=by rw [←hs,List.getElem?_map,h2];rfl
  rw [List.getElem?_map] at e1 e2;obtain⟨y1,g1,q1⟩:=Option.map_eq_some_iff.mp e1
  obtain⟨y2,g2,q2⟩:=Option.map_eq_some_iff.mp e2
  have:y1=y2:=Option.some.inj (q1.trans q2.symm)
  subst this;exact jx nd g1 g2
 have inner:∀(j:Nat) (s:Slot),(List.replicate kk Slot.no++aF env aU)[j]?=some s→(j<kk∧s=.no)∨∃a,kk≤j∧aU[j-kk]?=some a∧s=env.getD a .no:=fun j s e=>by
  by_cases hj:j<kk
  ·rw [List.getElem?_append_left (by simpa using hj),List.getElem?_replicate,if_pos hj] at e;cases e;exact .inl ⟨hj,rfl⟩
  ·rw [List.getElem?_append_right (by simpa using hj),List.length_replicate] at e;unfold aF at e;rw [List.getElem?_map] at e;obtain⟨a,ha,rfl⟩:=Option.map_eq_some_iff.mp e
   exact .inr ⟨a,by omega,ha,rfl⟩
 have val:∀(j a:Nat),kk≤j→aU[j-kk]?=some a→(List.replicate kk none++xS σ aU)[j]?=some ((σ[a]?).join):=fun j a hj ha=>by
  rw [List.getElem?_append_right (by simpa using hj),List.length_replicate];unfold xS;rw [List.getElem?_map,ha]
  rfl
 refine⟨by unfold aF xS;simp,sr.sub,sr.base,fun j s e=>?_,fun i j p q a e1 e2 e3 e4=>?_,sr.tab,sr.tab0⟩
 ·rcases inner j s e with⟨hj,rfl⟩|⟨a,hj,ha,rfl⟩
  ·exact⟨none,by rw [List.getElem?_append_left (by simpa using hj),List.getElem?_replicate,if_pos hj],trivial⟩
  ·refine⟨_,val j a hj ha,?_⟩;rw [List.getD_eq_getElem?_getD];cases e1:env[a]? with
   |none=>exact trivial
   |some s=>
    obtain⟨o,h1,h2⟩:=sr.slot a s e1
    rw [h1];exact h2
 ·rcases inner i _ e1 with⟨_,z⟩|⟨b,hi,hb,z1⟩
  ·cases z
  rcases inner j _ e2 with⟨_,z⟩|⟨c,hj,hc,z2⟩
  ·cases z
  rw [val i b hi hb] at e3;rw [val j c hj hc] at e4;have f1:env[b]?=some (.own p):=by
   rw [List.getD_eq_getElem?_getD] at z1;cases e:env[b]? with
   |none=>rw [e] at z1;cases z1
   |some s=>rw [e] at z1;exact congrArg some z1.symm
  have f2:env[c]?=some (.own q):=by
   rw [List.getD_eq_getElem?_getD] at z2;cases e:env[c]? with
   |none=>rw [e] at z2;cases z2
   |some s=>rw [e] at z2;exact congrArg some z2.symm
  have g1:σ[b]?=some (some (.ref a)):=Option.join_eq_some_iff.mp (Option.some.inj e3)
  have g2:σ[c]?=some (some (.ref a)):=Option.join_eq_some_iff.mp (Option.some.inj e4)
  have bc:=sr.apart b c p q a f1 f2 g1 g2
  subst bc;have:=NY _ _ b hb hc
  omega
theorem iT{H0 G H:Hp}{kk:Nat}{rest aH:Sl}{σ:St}{tg:Tg}{p:PV}(bW:jo kk tg=true)(e:Tg.put tg p (List.replicate kk .no++rest)=.ok aH)(r:SR W H0 aH σ G H):SR W H0 (List.replicate kk .no++rest) σ G H:=by
 have key:∀(j:Nat) (s:Slot),(List.replicate kk Slot.no++rest)[j]?=some s→s≠.no→aH[j]?=some s:=fun j s h hs=>by
  have CZ:¬j<kk:=fun z=>by
   rw [List.getElem?_append_left (by simpa using z),List.getElem?_replicate,if_pos z] at h;cases h;exact hs rfl
  unfold Tg.put at e;split at e
  ·cases e;unfold jo at bW;simp only [decide_eq_true_eq] at bW;rw [List.getElem?_set_ne (by omega)];exact h
  ·cases e;unfold jo at bW;simp only [Bool.and_eq_true,decide_eq_true_eq] at bW;rw [List.getElem?_set_ne (by omega),List.getElem?_set_ne (by omega)];exact h
  ·cases e
 have hlen:(List.replicate kk Slot.no++rest).length=σ.length:=by
  rw [←r.len];unfold Tg.put at e;split at e<;>first|(cases e;simp;done)|(cases e;done)
 refine⟨hlen,r.sub,r.base,fun j s h=>?_,fun i j p q a e1 e2 e3 e4=>r.apart i j p q a (key i _ e1 (fun z=>nomatch z)) (key j _ e2 (fun z=>nomatch z)) e3 e4,r.tab,r.tab0⟩
 by_cases hs:s=.no
 ·subst hs;have:j<σ.length:=by rw [←hlen];exact(List.getElem?_eq_some_iff.mp h).1
  exact⟨σ[j],List.getElem?_eq_getElem this,trivial⟩
 ·exact r.slot j s (key j s h hs)
end
end Ci
namespace Ci
open PySem L2
section
variable{Γ:Pg}{X:Cx}{W:Wd}{F:bj}{N:List Str}{sc:Scope}{k:Nat}
noncomputable def tN(W:Wd)(F:bj)(e:E):TE:=fun σ H Q=>∃H0 G env,SR W H0 env σ G H∧∃p,aA F e env=.ok p∧∀v G' H',aE W G H G' H'→Got W H0 G' H' e p v→Q v H'
noncomputable def HH(W:Wd)(F:bj)(e:E):TT:=fun σ H Q=>∃H0 G env,SR W H0 env σ G H∧∃b,aA F e env=.ok (.bl b)∧∀G' H',aE W G H G' H'→Q b H'
theorem sP{e:E}(σ:St)(H:Hp)(Q:VK)(h:tN W F e σ H Q):tE X W F e σ H Q:=by
 obtain⟨H0,G,env,sr,p,e1,q⟩:=h
 exact⟨H0,G,env,sr,by rw [e1];exact q⟩
theorem xt{e:E}(σ:St)(H:Hp)(Q:Bool→Hp→Prop)(h:HH W F e σ H Q):tT X W F e σ H Q:=by
 obtain⟨H0,G,env,sr,p,e1,q⟩:=h
 exact⟨H0,G,env,sr,by rw [e1];exact⟨p,rfl,q⟩⟩
theorem et(C:dw Γ F W N sc k X){scope:Scope}{kk:Nat}{aU:List Nat}{xs:List Str}(h:kL N sc scope kk aU xs)(fp:List Addr)(s1:Shared)(H1:Hp)(A:Addr):dw Γ.nol F W (xs++freeOf scope) (cJ scope sc) k (bQ X (xs++freeOf scope) scope (bz X.env (freeOf scope)) fp s1 H1 A):=
 ⟨rfl,er C.hsc,rfl,h.nd,C.K,C.mg,C.gs,C.bs,C.room,fun f hf=>⟨(C.fns f hf).ex⟩,C.nov,C.cls,C.xc,fun q hq=>⟨(C.hfs q hq).ex⟩,C.any,(fun z=>nomatch z),(fun z=>nomatch z),(fun z=>nomatch z)⟩
theorem B0{e:E}{p:Expr}(h:aS Γ N sc e p=true)(env:Env):∀x,foldedSetIterable p env x=pure x:=by
 intro x;cases p<;>first|rfl|(cases e<;>first|(exact absurd h zzf)|(rename_i q;cases q<;>exact absurd h zzf))
theorem ij{tg:Expr}{it:I}{p:Expr}(h:uT Γ N sc tg it p=true)(env:Env):∀x,foldedSetIterable p env x=pure x:=by
 intro x;cases it with
 |seq e=>exact B0 h env x
 |rng e=>cases p<;>first|rfl|(exact absurd h zzf)
 |rng2 a b=>cases p<;>first|rfl|(exact absurd h zzf)
 |enum e=>cases p<;>first|rfl|(exact absurd h zzf)
 |zip a b=>cases p<;>first|rfl|(exact absurd h zzf)
def CW(W:Wd)(H0 G1 H1:Hp)(env0:Sl)(f:PV→Res (Option PV))(ps:List PV)(i:Nat)(ys:List V)(σ':St)(H':Hp):Prop:=
 i≤ps.length∧∃G',aE W G1 H1 G' H'∧SR W H0 env0 σ' G' H'∧∃zs,bB f (ps.take i)=.ok zs∧zs.length≤i∧ae W G' zs ys
theorem sM(hK:W.K=X.K){kk:Nat}{aU:List Nat}{tg:Tg}{it:I}{elt:E}{ys:List Str}(bW:jo kk tg=true)(dc:eV elt=true)(hs:aU.map (fun i=>N[i]?)=ys.map some)(nd:ys.Nodup)(σ:St)(H:Hp)(Q:VK)(h:tF X W F (.comp kk aU tg it elt) σ H Q):
 xr (tI X W F it) kk (gT X.K tg) (tN W F elt) aU σ H Q:=by
 obtain⟨H0,G,env,sr,o⟩:=h
 rw [aA] at o;refine⟨H0,G,env,sr,o.bind.imp fun ps ji J G1 H1 g1 gi=>?_⟩
 by_cases vo:¬ps.length<fH
 ·rw [if_neg vo] at ji;exact ji.elim
 have hl:=Decidable.not_not.mp vo
 rw [if_pos hl] at ji;generalize hf:(fun x=>(tg.put x (List.replicate kk .no++aF env aU)).bind fun aH=>(aA F elt aH).bind fun y=>Res.ok (some y))=f at ji
 cases hc:bB f ps with
 |bad=>rw [hc] at ji;exact ji.elim
 |exc c=>
  exfalso
  have:∀(l:List PV) (c:Str),bB f l≠.exc c:=fun l=>by
   induction l with
   |nil=>intro c z;cases z
   |cons a l ih=>
    intro c z;simp only [bB] at z;rcases Res.bind_exc z with z|⟨o1,_,z⟩
    ·cases e:f a with
     |ok _=>rw [e] at z;cases z
     |exc _=>rw [e] at z;cases z
     |bad=>rw [e] at z;cases z
    ·rcases Res.bind_exc z with z|⟨o2,_,z⟩
     ·exact ih c z
     ·cases z
  exact this _ _ hc
 |ok all=>
  rw [hc] at ji;obtain⟨xs,e1,fin⟩:=ji
  cases e1;have bD:=sr.grow g1
  refine⟨ps.length,CW W H0 G1 H1 (List.replicate kk .no++aF env aU) f ps,⟨Nat.zero_le _,G1,.refl g1.sub,oZ kk bD hs nd,[],rfl,Nat.le_refl _,.nil⟩,?_⟩
  rintro i made σ' H' ⟨hi,G',g',sr',zs,hz,hzl,l⟩
  refine⟨by rw [l.length];exact Nat.lt_of_le_of_lt (Nat.le_trans hzl hi) (Nat.lt_of_lt_of_le hl (by decide)),?_⟩;obtain⟨ist,igo⟩:=gi.any i G' H' g'.g g'.h g'.sub
  by_cases hlast:i=ps.length
  ·refine .inl ⟨ist hlast,fun p hp=>?_⟩
   rw [hlast,List.take_length,hc] at hz;cases hz;exact fin p made G' H' (g1.trans g') hp l
  ·have ll:i<ps.length:=by omega
   obtain⟨hgo,hyld⟩:=igo ps[i] (List.getElem?_eq_getElem ll)
   refine .inr ⟨hgo,ll,fun x kZ hy=>?_⟩
   obtain⟨sf,g'',rx⟩:=hyld x kZ hy
   obtain⟨o1,ho,hnext⟩:=pW hc (List.getElem?_eq_getElem ll) hz
   rw [←hf] at ho;obtain⟨aH,he',ho⟩:=Res.bind_ok ho
   obtain⟨y,vx,ho⟩:=Res.bind_ok ho
   cases ho;refine qo hK he' (sr'.grow g'') rx fun σ2 eX=>⟨H0,sf,aH,eX,y,vx,fun v G3 H3 g3 t=>?_⟩
   refine⟨ll,G3,g'.trans (g''.trans g3),(iT bW he' eX).grow g3,_,hnext,?_,?_⟩
   ·rw [List.length_append];show zs.length+1≤i+1;omega
   ·exact(ae.same (g''.trans g3).g zs l).append (.cons (t.rep dc) .nil)
theorem lQ(hK:W.K=X.K){kk:Nat}{aU:List Nat}{tg:Tg}{it:I}{c elt:E}{ys:List Str}(bW:jo kk tg=true)(dc:eV elt=true)(hs:aU.map (fun i=>N[i]?)=ys.map some)(nd:ys.Nodup)(σ:St)(H:Hp)(Q:VK)(h:tF X W F (.compIf kk aU tg it c elt) σ H Q):
 jf (tI X W F it) kk (gT X.K tg) (HH W F c) (tN W F elt) aU σ H Q:=by
 obtain⟨H0,G,env,sr,o⟩:=h
 rw [aA] at o;refine⟨H0,G,env,sr,o.bind.imp fun ps ji J G1 H1 g1 gi=>?_⟩
 by_cases vo:¬ps.length<fH
 ·rw [if_neg vo] at ji;exact ji.elim
 have hl:=Decidable.not_not.mp vo
 rw [if_pos hl] at ji;generalize hf:(fun x=>(tg.put x (List.replicate kk .no++aF env aU)).bind fun aH=>(aA F c aH).bind fun t=>rb t fun t=>if t then(aA F elt aH).bind fun y=>Res.ok (some y) else .ok none)=f at ji
 cases hc:bB f ps with
 |bad=>rw [hc] at ji;exact ji.elim
 |exc c=>
  exfalso
  have:∀(l:List PV) (c:Str),bB f l≠.exc c:=fun l=>by
   induction l with
   |nil=>intro c z;cases z
   |cons a l ih=>
    intro c z;simp only [bB] at z;rcases Res.bind_exc z with z|⟨o1,_,z⟩
    ·cases e:f a with
     |ok _=>rw [e] at z;cases z
     |exc _=>rw [e] at z;cases z
     |bad=>rw [e] at z;cases z
    ·rcases Res.bind_exc z with z|⟨o2,_,z⟩
     ·exact ih c z
     ·cases z
  exact this _ _ hc
 |ok all=>
  rw [hc] at ji;obtain⟨xs,e1,fin⟩:=ji
  cases e1;have bD:=sr.grow g1
  refine⟨ps.length,CW W H0 G1 H1 (List.replicate kk .no++aF env aU) f ps,⟨Nat.zero_le _,G1,.refl g1.sub,oZ kk bD hs nd,[],rfl,Nat.le_refl _,.nil⟩,?_⟩
  rintro i made σ' H' ⟨hi,G',g',sr',zs,hz,hzl,l⟩
  refine⟨by rw [l.length];exact Nat.lt_of_le_of_lt (Nat.le_trans hzl hi) (Nat.lt_of_lt_of_le hl (by decide)),?_⟩;obtain⟨ist,igo⟩:=gi.any i G' H' g'.g g'.h g'.sub
  by_cases hlast:i=ps.length
  ·refine .inl ⟨ist hlast,fun p hp=>?_⟩
   rw [hlast,List.take_length,hc] at hz;cases hz;exact fin p made G' H' (g1.trans g') hp l
  ·have ll:i<ps.length:=by omega
   obtain⟨hgo,hyld⟩:=igo ps[i] (List.getElem?_eq_getElem ll)
   refine .inr ⟨hgo,ll,fun x kZ hy=>?_⟩
   obtain⟨sf,g'',rx⟩:=hyld x kZ hy
   obtain⟨o1,ho,hnext⟩:=pW hc (List.getElem?_eq_getElem ll) hz
   rw [←hf] at ho;obtain⟨aH,he',ho⟩:=Res.bind_ok ho
   obtain⟨t,ht,ho⟩:=Res.bind_ok ho
   obtain⟨b,rfl⟩:∃b,t=.bl b:=by
    cases t<;>first|exact⟨_,rfl⟩|(cases ho)
   refine qo hK he' (sr'.grow g'') rx fun σ2 eX=>⟨H0,sf,aH,eX,b,ht,fun G3 H3 g3=>?_⟩
   have iA:(if b=true then(aA F elt aH).bind fun y=>Res.ok (some y) else .ok none)=Res.ok o1:=ho
   cases b with
   |true=>
    rw [if_pos rfl] at iA;refine JI ?_;obtain⟨y,vx,iA⟩:=Res.bind_ok iA
    cases iA;refine⟨H0,G3,aH,eX.grow g3,y,vx,fun v G4 H4 g4 t4=>?_⟩
    refine⟨ll,G4,g'.trans (g''.trans (g3.trans g4)),(iT bW he' eX).grow (g3.trans g4),_,hnext,?_,?_⟩
    ·rw [List.length_append];show zs.length+1≤i+1;omega
    ·exact(ae.same (g''.trans (g3.trans g4)).g zs l).append (.cons (t4.rep dc) .nil)
   |false=>
    rw [if_neg zzf] at iA;refine Iu ?_;cases iA;refine⟨ll,G3,g'.trans (g''.trans g3),(iT bW he' eX).grow g3,_,hnext,?_,?_⟩
    ·rw [List.length_append];show zs.length+0≤i+1;omega
    ·show ae W G3 (zs++[]) made
     rw [List.append_nil];exact ae.same (g''.trans g3).g zs l
theorem tj(C:dw Γ F W N sc k X){kk:Nat}{aU:List Nat}{tg:Tg}{it:I}{elt:E}{bX eG dm:Expr}{scope:Scope}{pos:Pos}(h:kL N sc scope kk aU (aM bX))(bW:jo kk tg=true)(dc:eV elt=true)(hi:GI X W F bX it eG)(hfs:∀x,foldedSetIterable eG X.env x=pure x)
 (vY:fK (aM bX++freeOf scope) (cJ scope sc) (ju scope) tg bX=true) (he:∀Y,dw Γ.nol F W (aM bX++freeOf scope) (cJ scope sc) k Y→GE Y W F elt dm):GF X W F (.comp kk aU tg it elt) (.ListComp dm [⟨bX,eG,[],0⟩] scope pos):=by
 intro pins s σ H Q I hq;have DM:(freeOf scope).Nodup:=(List.nodup_append.mp h.nd).2.1
 have rd:=sM (N:=N) C.K bW dc h.slots DM σ H Q hq
 have:=yz (g:=gT X.K tg) (te:=tN W F elt) (xs:=aM bX) (ys:=freeOf scope) (is:=aU) (pos:=pos) C.calm (n9 C.hN C.hsc I.ok h) hi
  (fun fp s1 H1 A=>yg (fn:=ju scope) (X:=bQ X (aM bX++freeOf scope) scope (bz X.env (freeOf scope)) fp s1 H1 A) rfl h.nd (er C.hsc) rfl (fun _ z=>z) vY)
  (fun fp s1 H1 A=>L2.PE.imp (he _ (et C h fp s1 H1 A)) fun σ H Q z=>sP σ H Q z) hfs pins s σ H Q I
 rw [h.len] at this;exact this rd
theorem mj(C:dw Γ F W N sc k X){kk:Nat}{aU:List Nat}{tg:Tg}{it:I}{c elt:E}{bX eG pc dm:Expr}{scope:Scope}{pos:Pos}(h:kL N sc scope kk aU (aM bX))(bW:jo kk tg=true)(dc:eV elt=true)(hi:GI X W F bX it eG)(hfs:∀x,foldedSetIterable eG X.env x=pure x)
 (vY:fK (aM bX++freeOf scope) (cJ scope sc) (ju scope) tg bX=true) (hc:∀Y,dw Γ.nol F W (aM bX++freeOf scope) (cJ scope sc) k Y→GT Y W F c pc) (he:∀Y,dw Γ.nol F W (aM bX++freeOf scope) (cJ scope sc) k Y→GE Y W F elt dm):
 GF X W F (.compIf kk aU tg it c elt) (.ListComp dm [⟨bX,eG,[pc],0⟩] scope pos):=by
 intro pins s σ H Q I hq;have DM:(freeOf scope).Nodup:=(List.nodup_append.mp h.nd).2.1
 have rd:=lQ (N:=N) C.K bW dc h.slots DM σ H Q hq
 have:=uH (g:=gT X.K tg) (tt:=HH W F c) (te:=tN W F elt) (xs:=aM bX) (ys:=freeOf scope) (is:=aU) (pos:=pos) C.calm (n9 C.hN C.hsc I.ok h) hi
  (fun fp s1 H1 A=>yg (fn:=ju scope) (X:=bQ X (aM bX++freeOf scope) scope (bz X.env (freeOf scope)) fp s1 H1 A) rfl h.nd (er C.hsc) rfl (fun _ z=>z) vY)
  (fun fp s1 H1 A=>L2.PT.imp (hc _ (et C h fp s1 H1 A)) fun σ H Q z=>xt σ H Q z)
  (fun fp s1 H1 A=>L2.PE.imp (he _ (et C h fp s1 H1 A)) fun σ H Q z=>sP σ H Q z) hfs pins s σ H Q I
 rw [h.len] at this;exact this rd
end
end Ci
namespace Ci
open PySem L2
section
variable{W:Wd}{Z:List (Addr×Obj)}{G H:Hp}
mutual
theorem Rep.less(zs:∀b o,Z.lookup b=some o→G b=some (.frz o bA)):∀(p:PV) {v:V},Rep W G p v→Rep W (aV Z G) p v
 |.non,_,h=>by simpa only [Rep] using h
 |.bl b,_,h=>by simpa only [Rep] using h
 |.int i,_,h=>by simpa only [Rep] using h
 |.str z,_,h=>by simpa only [Rep] using h
 |.tup xs,_,h=>by
  simp only [Rep] at h⊢;obtain⟨a,vs,e,q,l⟩:=h
  refine⟨a,vs,e,?_,ae.less zs xs l⟩;rcases q with q|⟨(q|⟨o,q⟩)|q,z⟩
  ·cases y:Z.lookup a with
   |none=>exact .inl (by rw [aw y];exact q)
   |some o'=>rw [zs a o' y] at q;cases q
  ·cases y:Z.lookup a with
   |none=>exact .inl (by rw [aw y];exact q)
   |some o'=>rw [zs a o' y] at q;cases q
  ·cases y:Z.lookup a with
   |none=>exact .inr ⟨.inl (.inr ⟨o,by rw [aw y];exact q⟩),z⟩
   |some o'=>rw [zs a o' y] at q;cases q
  ·exact .inr ⟨.inr q,z⟩
 |.lst xs,_,h=>by
  simp only [Rep] at h⊢;obtain⟨a,vs,e,q,l⟩:=h
  refine⟨a,vs,e,?_,ae.less zs xs l⟩;rcases q with(q|⟨o,q⟩)|q
  ·cases y:Z.lookup a with
   |none=>exact .inl (.inl (by rw [aw y];exact q))
   |some o'=>rw [zs a o' y] at q;cases q
  ·cases y:Z.lookup a with
   |none=>exact .inl (.inr ⟨o,by rw [aw y];exact q⟩)
   |some o'=>rw [zs a o' y] at q;cases q
  ·exact .inr q
 |.exc c,_,h=>by
  simp only [Rep] at h⊢;obtain⟨a,C,e,x,m,q⟩:=h
  cases y:Z.lookup a with
  |none=>exact⟨a,C,e,x,m,by rw [aw y];exact q⟩
  |some o'=>
   rw [zs a o' y] at q;unfold F9 at q;cases q
 |.dct ks vs,_,h=>by
  simp only [Rep] at h⊢;obtain⟨a,o,us,e,n,m,l⟩:=h
  refine⟨a,o,us,e,n,?_,ae.less zs vs l⟩;cases y:Z.lookup a with
  |none=>rw [aw y];exact m
  |some o'=>rw [zs a o' y] at m;cases m
theorem ae.less(zs:∀b o,Z.lookup b=some o→G b=some (.frz o bA)):∀(ps:List PV) {vs:List V},ae W G ps vs→ae W (aV Z G) ps vs
 |[],_,h=>by simpa only [ae] using h
 |p::ps,_,h=>by
  simp only [ae] at h⊢;obtain⟨v,r,e,h1,h2⟩:=h
  exact⟨v,r,e,Rep.less zs p h1,ae.less zs ps h2⟩
end
theorem jV(t:cb W G H)(sg:ay G H)(zs:∀b o,Z.lookup b=some o→G b=some (.frz o bA))(zc:∀b o,Z.lookup b=some o→∃v,o.data=.cell v):cb W (aV Z G) (aV Z H):=fun P q m=>by
 obtain⟨n,ps,e,tr,al⟩:=t P q m
 refine⟨gJ n,ps,?_,tr,fun pos cv y=>?_⟩
 ·cases y:Z.lookup P with
  |none=>rw [aw y];exact e
  |some o=>rw [sg _ _ (zs P o y)] at e;cases e
 ·obtain⟨c',oc,cF,t',e1,e2,e3,e4⟩:=al pos cv y
  refine⟨c',oc,cF,t',e1,?_,e3,e4⟩;cases y:Z.lookup c' with
  |none=>rw [aw y];exact e2
  |some o=>
   rw [zs c' o y] at e2;cases e2;obtain⟨v,hv⟩:=zc c' _ y
   rw [e3] at hv;cases hv
theorem aE.wz{G3 H3:Hp}(g:aE W (aV Z G) (aV Z H) G3 H3)(sg:ay G H)(zs:∀b o,Z.lookup b=some o→G b=some (.frz o bA))(zc:∀b o,Z.lookup b=some o→∃v,o.data=.cell v)(zn:∀b o,Z.lookup b=some o→H3 b=none):aE W G H (withZ Z G3) (withZ Z H3) where
 g:=fun b u e=>by
  cases y:Z.lookup b with
  |none=>rw [af y];exact g.g _ _ (by rw [aw y];exact e)
  |some o=>rw [aW y];rw [zs b o y] at e;exact e
 h:=fun b u e=>by
  cases y:Z.lookup b with
  |none=>rw [af y];exact g.h _ _ (by rw [aw y];exact e)
  |some o=>
   rw [sg _ _ (zs b o y)] at e;cases e;exact .inl ⟨(fun _ z=>nomatch z),aW y⟩
 sub:=fun b u e=>by
  cases y:Z.lookup b with
  |none=>rw [af y] at e⊢;exact g.sub _ _ e
  |some o=>rw [aW y] at e⊢;exact e
 own:=fun a h1 h3 h2=>by
  cases y:Z.lookup a with
  |none=>rw [af y];exact g.own a (by rw [aw y];exact h1) (by rw [aw y];exact h3) (by rw [aw y];exact h2)
  |some o=>rw [zs a o y] at h2;cases h2
 tab:=fun t P q m=>by
  obtain⟨n,ps,e,tr,al⟩:=g.tab (jV t sg zs zc) P q m
  refine⟨?_,ps,?_,tr,fun pos cv y=>?_⟩
  ·cases y:Z.lookup P with
   |none=>rw [af y];exact n
   |some o=>rw [zn P o y] at e;cases e
  ·cases y:Z.lookup P with
   |none=>rw [af y];exact e
   |some o=>rw [zn P o y] at e;cases e
  ·obtain⟨c',oc,cF,t',e1,e2,e3,e4⟩:=al pos cv y
   refine⟨c',oc,cF,t',e1,?_,e3,e4⟩;cases y:Z.lookup c' with
   |none=>rw [af y];exact e2
   |some o=>have:=g.sub _ _ e2;rw [zn c' o y] at this;cases this
theorem qb(t:cb W G H)(sg:ay G H)(zn:∀b o,Z.lookup b=some o→H b=none):cb W (withZ Z G) (withZ Z H):=fun P q m=>by
 obtain⟨n,ps,e,tr,al⟩:=t P q m
 refine⟨?_,ps,?_,tr,fun pos cv y=>?_⟩
 ·cases y:Z.lookup P with
  |none=>rw [af y];exact n
  |some o=>rw [zn P o y] at e;cases e
 ·cases y:Z.lookup P with
  |none=>rw [af y];exact e
  |some o=>rw [zn P o y] at e;cases e
 ·obtain⟨c',oc,cF,t',e1,e2,e3,e4⟩:=al pos cv y
  refine⟨c',oc,cF,t',e1,?_,e3,e4⟩;cases y:Z.lookup c' with
  |none=>rw [af y];exact e2
  |some o=>have:=sg _ _ e2;rw [zn c' o y] at this;cases this
theorem aE.lz{G' H':Hp}(g:aE W (withZ Z G) (withZ Z H) G' H')(sg:ay G H)(zc:∀b o,Z.lookup b=some o→∃v,o.data=.cell v)(zn:∀b o,Z.lookup b=some o→H b=none):aE W G H (aV Z G') (aV Z H') where
 g:=fun b u e=>by
  cases y:Z.lookup b with
  |none=>rw [aw y];exact g.g _ _ (by rw [af y];exact e)
  |some o=>have:=sg _ _ e;rw [zn b o y] at this;cases this
 h:=fun b u e=>by
  cases y:Z.lookup b with
  |none=>rw [aw y];exact g.h _ _ (by rw [af y];exact e)
  |some o=>rw [zn b o y] at e;cases e
 sub:=fun b u e=>by
  obtain⟨q,e1⟩:=dD e
  rw [aw q];exact g.sub _ _ e1
 own:=fun a h1 h3 h2=>by
  cases y:Z.lookup a with
  |none=>rw [aw y];exact g.own a (by rw [af y];exact h1) (by rw [af y];exact h3) (by rw [af y];exact h2)
  |some o=>exact eE y
 tab:=fun t=>jV (g.tab (qb t sg zn)) g.sub (fun b o q=>g.g _ _ (aW q)) zc
theorem tJ(sg:ay G H):ay (withZ Z G) (withZ Z H):=fun b u e=>by
 cases y:Z.lookup b with
 |none=>rw [af y] at e⊢;exact sg _ _ e
 |some o=>rw [aW y] at e⊢;exact e
theorem qp{G3 H3:Hp}(s:ay G3 H3)(zn:∀b o,Z.lookup b=some o→H3 b=none):ay G3 (withZ Z G3):=fun b u e=>by
 cases y:Z.lookup b with
 |none=>rw [af y];exact e
 |some o=>have:=s _ _ e;rw [zn b o y] at this;cases this
theorem oG(zs:∀b o,Z.lookup b=some o→H b=some (.frz o bA)):withZ Z (aV Z H)=H:=by
 funext b
 cases y:Z.lookup b with
 |none=>rw [af y,aw y]
 |some o=>rw [aW y,zs b o y]
theorem pd(zs:∀b o,Z.lookup b=some o→H b=none):aV Z (withZ Z H)=H:=by
 funext b
 cases y:Z.lookup b with
 |none=>rw [aw y,af y]
 |some o=>rw [eE y,zs b o y]
theorem vQ{P:Program}{w:World}{h:Heap}(k:dN P w H h)(zs:∀b o,Z.lookup b=some o→H b=some (.frz o bA)):dN P w (aV Z H) h:=fun b v e=>by
 obtain⟨q,e1⟩:=dD e
 refine(k b v e1).stay (fun c y _ r=>r) (fun c r=>?_) fun c xs r=>?_
 ·cases y:Z.lookup c with
  |none=>rw [aw y];exact r
  |some o=>rw [zs c o y] at r;cases r
 ·cases y:Z.lookup c with
  |none=>rw [aw y];exact r
  |some o=>rw [zs c o y] at r;cases r
theorem uS{P:Program}{w:World}{K:PySem.W.Frag}{mg:Str→Option Value}{base:Heap}{A:Around}{outer:List Env}{s:Shared}(e:iu P w K mg base A outer s H)(zs:∀b o,Z.lookup b=some o→H b=some (.frz o bA)):iu P w K mg base A outer s (aV Z H):=
 ⟨e.frames,e.mod,fun b o q=>⟨(e.bs b o q).1,gJ (e.bs b o q).2⟩,e.bsz,e.funs,fun b hb=>gJ (e.frf b hb),vQ e.hok zs,e.bare⟩
theorem yf{ps:List Str}{scope:Scope}(h:HI ps scope=true):pF ps (aZ scope) scope:=by
 unfold HI at h;simp only [Bool.and_eq_true,beq_iff_eq,Bool.not_eq_true',decide_eq_true_eq,List.all_eq_true] at h;obtain⟨⟨⟨⟨⟨⟨h1,h2⟩,h3⟩,h4⟩,h5⟩,h6⟩,h7⟩:=h
 refine⟨h1,h2,h3,h4,h5,h6,h7,fun x hx=>?_⟩
 unfold aZ;rw [List.mem_reverse,List.mem_map];exact⟨(x,.free),List.mem_filter.mpr ⟨PySem.mem_of_lookup hx,rfl⟩,rfl⟩
theorem sU{params:Arguments}{ps:List Str}{qual:Str}{body:Expr}{scope:Scope}{cl:List (Str×Addr)}{pm e9 ct:Value}(h:mW params=some ps)(us:List Value)(hl:us.length=ps.length):bindArgs (PySem.W.kla_fn "<lambda>" qual params body scope cl pm e9 ct) ⟨us,[]⟩=pure (ps.zip us):=by
 unfold mW at h;split at h
 ·cases h
  match us,hl with
  |[],_=>rfl
 ·cases h
  match us,hl with
  |[u],_=>
   simp [bindArgs,seqItems?,PySem.W.kla_fn]
   rfl
 ·cases h
theorem yv{params:Arguments}{ps:List Str}{env:Env}(h:mW params=some ps):defaultsOf params env=([],[]):=by
 unfold mW at h;split at h
 ·rfl
 ·rfl
 ·cases h
theorem lX:∀{idx:List Nat} {l qs:List PV} {us:List V},en l idx=.ok qs→ae W G l us→∃vs:List V,ae W G qs vs∧vs.length=idx.length∧∀(j i:Nat),idx[j]?=some i→∃v,us[i]?=some v∧vs[j]?=some v
 |[],l,qs,us,h,r=>by
  unfold en at h;cases h;exact⟨[],.nil,rfl,fun j i e=>by simp at e⟩
 |i::idx,l,qs,us,h,r=>by
  unfold en at h;obtain⟨p,hp,h⟩:=Res.bind_ok h
  obtain⟨ps,ji,h⟩:=Res.bind_ok h
  cases h;obtain⟨v,hv,rv⟩:=r.getP (Res.of_ok hp)
  obtain⟨vs,l1,l2,l3⟩:=lX ji r
  refine⟨v::vs,.cons rv l1,by simp [l2],fun j k e=>?_⟩
  cases j with
  |zero=>simp at e;subst e;exact⟨v,hv,rfl⟩
  |succ j=>simpa using l3 j k (by simpa using e)
theorem iV{l:List PV}(c:Str):∀{idx:List Nat},en l idx≠.exc c
 |[]=>fun z=>nomatch z
 |i::idx=>fun z=>by
  unfold en at z;rcases Res.bind_exc z with z|⟨p,_,z⟩
  ·exact Res.of_noexc c z
  ·rcases Res.bind_exc z with z|⟨ps,_,z⟩
   ·exact iV c z
   ·cases z
end
def vZ(idx:List Nat):TA:=fun σ H Q=>∃vs:List V,vs.length=idx.length∧(∀(j i:Nat),idx[j]?=some i→∃v,σ[i]?=some (some v)∧vs[j]?=some v)∧Q vs H
theorem pQ{a:Expr}{as:List Expr}{xs:List (Option Str)}(h:dY (a::as) xs=true):∃x np,a=.Name x np∧∃ET,dY as ET=true:=by
 cases xs with
 |nil=>cases a<;>exact absurd h zzf
 |cons y ys=>
  cases y with
  |none=>cases a<;>exact absurd h zzf
  |some y=>
   cases a with
   |Name x np=>exact⟨x,np,rfl,ys,(Bool.and_eq_true_iff.mp h).2⟩
   |_=>exact absurd h zzf
theorem jW{env:Env}:∀{as:List Expr} {xs:List (Option Str)} {pos:Pos},dY as xs=true→(backTo pos (starEach as env)).any (·.1)=false
 |[],_,_,_=>rfl
 |a::as,xs,pos,h=>by
  obtain⟨x,np,rfl,ET,h2⟩:=pQ h
  show(false||(backTo pos (starEach as env)).any (·.1))=false
  rw [jW h2]
  rfl
theorem oE{X:Cx}(hv:∀(i:Nat) (x:Str),X.N[i]?=some x→FV X.env.scope x):∀{as:List Expr} {idx:List Nat},dY as (idx.map fun i=>X.N[i]?)=true→PA X as (vZ idx)
 |[],[],_=>L2.PA.imp dg fun σ H Q h=>by
  obtain⟨vs,h1,_,h3⟩:=h
  cases vs with
  |nil=>exact h3
  |cons _ _=>simp at h1
 |a::as,i::idx,h=>by
  rw [List.map_cons] at h;cases e:X.N[i]? with
  |none=>rw [e] at h;cases a<;>exact absurd h zzf
  |some y=>
   rw [e] at h;cases a<;>first|(exact absurd h zzf)|skip
   rename_i x np;unfold dY at h;rw [Bool.and_eq_true,Bool.and_eq_true] at h;have JB:=beq_iff_eq.mp h.1.1
   subst JB;have LF:(x==("__debug__":Str))=false∧(x==("__classdict__":Str))=false:=by
    have h2:=h.1.2
    unfold okN at h2;simp only [Bool.and_eq_true,Bool.not_eq_true'] at h2;exact⟨h2.1.1,h2.1.2⟩
   refine L2.PA.imp (bO (d7 (i:=i) e (hv i x e) LF.1 LF.2) (oE hv h.2) rfl) fun σ H Q hq=>?_
   obtain⟨vs,h1,h2,h3⟩:=hq
   cases vs with
   |nil=>simp at h1
   |cons v vs=>
    obtain⟨v',hv1,hv2⟩:=h2 0 i rfl
    simp at hv2;subst hv2;exact⟨v,hv1,vs,by simpa using h1,fun j k ej=>by simpa using h2 (j+1) k (by simpa using ej),h3⟩
 |[],_::_,h=>by cases h
 |a::_,[],h=>by cases a<;>cases h
end Ci
namespace Ci
open PySem L2
section
variable{Γ:Pg}{X:Cx}{W:Wd}{F:bj}{N:List Str}{sc:Scope}{k:Nat}
theorem sZ{g:Str}{idx:List Nat}{params:Arguments}{body:Expr}{scope:Scope}(h:wA g idx params body scope=true):∃ps a as np pos,mW params=some ps∧idx.head?=some ps.length∧body=.Call (.Name g np) (a::as) [] pos∧scope.names.lookup g=some .globalImplicit∧okN g=true∧gy g=false∧dY (a::as) (idx.tail.map fun i=>(ps++aZ scope)[i]?)=true∧pF ps (aZ scope) scope:=by
 unfold wA at h;split at h
 ·rename_i ps g' np a as pos e1;simp only [Bool.and_eq_true,beq_iff_eq,Bool.not_eq_true',decide_eq_true_eq] at h;obtain⟨⟨⟨⟨⟨⟨h0,h1⟩,h2⟩,h3⟩,h4⟩,h5⟩,h6⟩:=h
  subst h1;exact⟨ps,a,as,np,pos,e1,h0,rfl,h2,h3,h4,h5,yf h6⟩
 ·cases h
theorem qJ{a:Expr}{as:List Expr}{xs:List (Option Str)}{env:Env}(h:dY (a::as) xs=true):∃x np,a=.Name x np∧∃ET,dY as ET=true:=pQ h
theorem yt(C:dw Γ F W N sc k X){g:Str}{idx:List Nat}{cy as qs:List PV}{f:Addr}{pins:List (Addr×Obj)}{σ:St}{G H:Hp}{s:Shared}{Q:VK}{us:List Value}{vs:List V}
 (I:Inv X pins σ H s) (sg:ay G H) (tb:cb W G H) (cr:nQ W G g idx cy (.ref f)) (l:ae W G as vs) (r:Vals vs us) (hn:idx.head?=some as.length) (hq:en (as++cy) idx.tail=.ok qs)
 (o:Out X W (F g qs) σ G H fun p=>cL W G H p Q):wpAny (model X.prog X.w) X.A (call (.ref f) us) (EP X pins σ Q) X.xe s:=by
 obtain⟨f',c',oc,cF,t,eR,pm,params,body,scope,qual,cl,Z,ws,e,d⟩:=cr
 cases e;obtain⟨ps,a,as',np,pos,e1,e0,rfl,e2,e3,e4,e5,S⟩:=sZ d.lg
 have xB:F g qs≠.bad:=fun z=>by rw [z] at o;exact o
 have hlen:as.length=ps.length:=Option.some.inj (hn.symm.trans e0)
 have G9:∀b o,Z.lookup b=some o→H b=some (.frz o bA):=fun b o q=>sg _ _ (d.zs b o q)
 have Mu:withZ Z (aV Z H)=H:=oG G9
 have zA:qZ Z (aV Z H) (d0 X.stack) s.heap:=⟨fun b o q=>(I.hok b _ (G9 b o q)).1,fun b o q=>eE q,fun b o q hb=>by have:=I.stkFree b hb;rw [G9 b o q] at this;cases this⟩
 have rl:ae W (aV Z G) (as++cy) (vs++ws):=(ae.less d.zs as l).append d.rep
 obtain⟨ys,ry,ly,py⟩:=lX hq rl
 have hfs:Γ.fs.contains g=true:=by
  rcases C.any g qs xB with z|z
  ·exact z
  ·rw [e4] at z;cases z
 obtain⟨fa,fd,pn,FO,hm,hk,hb,hal⟩:=(C.fns g hfs).ex
 have M8:ay (aV Z G) (aV Z H):=lJ sg
 refine wpAny_call (codeAny_mono (L2.lam_run (E:=fun Cv ao H'=>∃c,F g qs=.exc c∧XE W c G H Cv ao H') (Q:=Q) (Z:=Z) (ws:=ws) (vs:=vs) (t:=fun σ' H1 Q1=>H1=aV Z H∧vZ idx.tail σ' H1 fun zs H2=>H2=H1∧zs=ys∧∀u H3,(match F g qs with
  |.ok p=>∃G3,aE W (aV Z G) (aV Z H) G3 H3∧Rep W G3 p u
  |_=>False)→Q1 u H3) S C.room (uS I.env0 G9) zA ?zb (I.hok _ _ (sg _ _ d.fo)).1 (I.hok _ _ (sg _ _ d.co)).1 d.cd d.cn (sU e1 us (by rw [←r.length,l.length,hlen])) r (by rw [l.length,hlen]) d.len d.has d.inj d.cells ?cells ?ht ?hq) fun rr s' hr=>?end_)
 case zb=>
  intro b o q;cases y:X.base.get? b with
  |none=>rfl
  |some o'=>have:=(I.bs b o' y).2;rw [G9 b o q] at this;cases this
 case cells=>
  intro i y c h1 h2 v h3;obtain⟨u,o',q1,q2,q3⟩:=d.vals i y c h1 h2 v h3
  exact⟨u,q1,o',zA.at_ c o' q2,q3⟩
 case hq=>
  refine⟨rfl,ys,ly,fun j i ej=>?_,rfl,rfl,fun u H3 h3 zn=>?_⟩
  ·obtain⟨v,h1,h2⟩:=py j i ej
   refine⟨v,?_,h2⟩;rw [←List.map_append,List.getElem?_map,h1]
   rfl
  ·cases z:F g qs with
   |ok p=>
    rw [z] at h3 o;obtain⟨G3,g3,r3⟩:=h3
    exact o u _ _ (g3.wz sg d.zs d.zc zn) (Rep.same (qp g3.sub zn) p r3)
   |exc c=>rw [z] at h3;exact h3.elim
   |bad=>exact absurd z xB
 case ht=>
  intro sk s1 σ' H1 Q1 I1 h1;obtain⟨rfl,h1⟩:=h1
  obtain⟨x0,np0,rfl,ET,hrest⟩:=qJ (env:=X.env) e5
  refine wpAny_Call_Name_kw (fY (X:=Bf X.prog X.w X.K X.mg X.base (ps++aZ scope) qual scope f (.ref c') cl X.A X.stack s (aV Z H) _) I1 e2 hm ?_ (cM e3).1);refine PySem.W.callWith_K (h₀:=X.base) I.ok.mod.kin hk (bC (oE (X:=Bf X.prog X.w X.K X.mg X.base (ps++aZ scope) qual scope f (.ref c') cl X.A X.stack s (aV Z H) _) (fun i x hx=>?_) e5 pos sk s1 σ' _ _ I1 h1) fun us2 s2 ⟨vs2,H2,I2,r2,q2⟩=>⟨I2.kIn,?_⟩) rfl (jW hrest)
  ·rcases List.mem_append.mp (List.mem_of_getElem? hx) with z|z
   ·exact .inl (S.par x z)
   ·exact .inr (.inr (S.fre x z))
  ·obtain⟨rfl,rfl,q2⟩:=q2
   refine j0 (X:=Bf X.prog X.w X.K X.mg X.base (ps++aZ scope) qual scope f (.ref c') cl X.A X.stack s (aV Z H) _) (q:=none) (as:=qs) (G:=aV Z G) (C.room.deeper _) FO hb (fun z=>by rw [ry.length];exact hal qs z) I2 M8 (jV tb sg d.zs d.zc) ry r2 ?_;cases z:F g qs with
   |ok p=>
    rw [z] at q2;exact fun v G' H' g' rp=>q2 v H' ⟨G',g',rp⟩
   |exc c=>
    intro pins3 G3 H3 s3 e s' I3 g3 x3;refine EV pins3 σ' H3 s3 e s' I3 (A1.imp x3 fun Cv ao H' y zn=>?_);obtain⟨C4,a4,G4,y1,y2,y3,y4,y5⟩:=y
    exact⟨c,rfl,C4,a4,_,y1,y2,y3,y4,(g3.trans y5).wz sg d.zs d.zc zn⟩
   |bad=>exact absurd z xB
 case end_=>
  rw [Mu] at hr;cases rr with
  |error e=>
   have hr:dC X.prog X.w X.stack H s (fun Cv ao H'=>∃c,F g qs=.exc c∧XE W c G H Cv ao H') e s':=hr
   cases z:F g qs with
   |ok q=>
    obtain⟨a,C',t,vs,H',B,rfl,Fl⟩:=hr
    obtain⟨c,e1,_⟩:=Fl.ends
    rw [z] at e1;cases e1
   |exc c=>
    rw [z] at o;refine o pins G H s e s' I (.refl sg) (A1.imp hr fun C1 a H' y=>?_);obtain⟨c',e1,y⟩:=y
    rw [z] at e1;cases e1;exact y
   |bad=>exact absurd z xB
  |ok fl=>
   cases fl with
   |ret u=>exact I.after hr
   |next=>exact False.elim hr
   |brk=>exact False.elim hr
   |cont=>exact False.elim hr
end
end Ci
namespace Ci
open PySem L2
section
variable{Γ:Pg}{X:Cx}{W:Wd}{F:bj}{N:List Str}{sc:Scope}{k:Nat}
theorem xq(C:dw Γ F W N sc k X){i:Nat}{x:Str}{e:E}{es:Es}{p:Expr}{ps:List Expr}{np pos:Pos}(h:(N[i]?==some x&&dh sc x&&okN x)=true)(vW:fv (.cons e es)=true)(ha:GA X W F (.cons e es) (p::ps))
 (dB:starEach (p::ps) X.env=(false,eval p X.env)::starEach ps X.env) (hpl:(backTo pos (starEach ps X.env)).any (·.1)=false):GE X W F (.callv i (.cons e es)) (.Call (.Name x np) (p::ps) [] pos):=by
 simp only [Bool.and_eq_true,beq_iff_eq] at h;obtain⟨h1,h2,h3⟩:=cM h.2
 intro pins s σ H Q I hq;obtain⟨H0,G,env,sr,o⟩:=hq
 rw [aA] at o;cases e1:env[i]? with
 |none=>rw [e1] at o;exact o.elim
 |some sl=>
  cases sl with
  |no=>rw [e1] at o;exact o.elim
  |val _=>rw [e1] at o;exact o.elim
  |own _=>rw [e1] at o;exact o.elim
  |fn g idx cy=>
   rw [e1] at o;obtain⟨o2,hs,v,rfl,cr⟩:=sr.slot i _ e1
   have Nr:=cr
   obtain⟨f,c',oc,cF,t,eR,pm,params,body,scope,qual,cl,Z,ws,e2,d⟩:=Nr
   subst e2;refine wpAny_Call_Name_kw (wpAny_mono (d7 (i:=i) (by rw [C.hN];exact h.1.1) (j8 C h.1.2) h1 h2 pins s σ H (fun v' H1=>v'=.ref f∧H1=H) I ⟨_,hs,rfl,rfl⟩) (fun u s1 hu=>?_) fun _ _ y=>y)
   obtain⟨v',H1,I1,ru,rfl,rfl⟩:=hu
   cases ru;refine PySem.W.callWith_F ⟨_,_,_,_,(I1.hok _ _ (sr.sub _ _ d.fo)).1⟩ (bC (ha pos pins s1 σ H1 (fun vs H2=>∃G2 as qs,ay G2 H2∧cb W G2 H2∧ae W G2 as vs∧nQ W G2 g idx cy (.ref f)∧G2 f=some (.frz (PySem.W.kla_obj "<lambda>" qual params body scope cl pm c' eR) bA)∧idx.head?=some as.length∧en (as++cy) idx.tail=.ok qs∧Out X W (F g qs) σ G2 H2 fun p=>cL W G2 H2 p Q) I1 ?_) fun us s2 ⟨vs,H2,I2,r,q⟩=>?_) dB hpl
   ·refine args sr o fun as vs G1 H2 g1 t1 bD o1=>?_
    split at o1
    ·rename_i hn;cases hq:en (as++cy) idx.tail with
     |ok qs=>
      rw [hq] at o1;have oB:Out X W (F g qs) σ G1 H2 _:=o1
      exact⟨G1,as,qs,bD.sub,bD.tab,t1.rep vW,cr.same g1.g,g1.g _ _ d.fo,hn,hq,oB.imp fun p hp v G' H' g' rp=>hp v G' H' (g1.trans g') (.of rp)⟩
     |exc c=>exact absurd hq (iV c)
     |bad=>rw [hq] at o1;exact o1.elim
    ·exact o1.elim
   ·obtain⟨G2,as,qs,sg,tb,l,cr2,fo2,hn,hqs,o2⟩:=q
    exact⟨⟨_,_,_,_,(I2.hok _ _ (sg _ _ fo2)).1⟩,yt C I2 sg tb cr2 l r hn hqs o2⟩
def m5(X:Cx)(W:Wd)(params:Arguments)(body:Expr)(scope:Scope)(cl:List (Str×Addr))(G1 H1 G2 H2:Hp)(f:Addr):Prop:=aE W G1 H1 G2 H2∧∃c' oc cF t eR pm,G2 f=some (.frz (PySem.W.kla_obj "<lambda>" (X.env.qual++"<lambda>") params body scope cl pm c' eR) bA)∧G2 c'=some (.frz oc bA)∧oc.data=.fields cF∧cF[1]?=some (.str (X.env.qual++"<lambda>") t)
theorem vN(C:dw Γ F W N sc k X)(hl:Γ.hl=true){params:Arguments}{ps:List Str}{body:Expr}{scope:Scope}{pos:Pos}{cl:List (Str×Addr)}(hp:mW params=some ps)(A5:closureFor scope X.env=pure cl):
 PE X (.Lambda params body scope pos) (fun σ H Q=>∃G,ay G H∧cb W G H∧∀f G2 H2,m5 X W params body scope cl G H G2 H2 f→Q (.ref f) H2):=by
 intro pins s σ H Q I h;obtain⟨G,sg,tb,q⟩:=h
 obtain⟨c,P,sX,CH,hts,huq⟩:=C.tb hl
 obtain⟨nG,kJ,hP,tr,al⟩:=tb P _ hts
 refine L2.lam_make (R:=fun c' oc=>G c'=some (.frz oc bA)) I hP tr sX CH (C.bm hl) A5 (yv hp) (fun cv e=>?_) fun f c' oc cF t eR om h' tk hf hc EA M9 MB hd hv Nk Ni more I'=>?_
 ·obtain⟨c',oc,cF,t,e1,e2,e3,e4⟩:=al pos cv e
  exact⟨c',oc,cF,t,e1,sg _ _ e2,e2,e3,e4⟩
 ·have MN:G f=none:=sg.free hf
  have Mg:G c'=none∨G c'=some (.frz oc bA):=by
   rcases hc with z|z
   ·exact .inl (sg.free z)
   ·exact .inr z.2
  have fo:∀fo,fw H P om c' oc f fo f=some (.frz fo bA):=fun fo=>by unfold fw;rw [ag]
  have sG:∀fo,ay G (upd (upd G c' (.frz oc bA)) f (.frz fo bA)):=fun fo b u e=>by
   have y6:b≠f:=fun z=>by rw [z,MN] at e;cases e
   rw [aa y6]
   by_cases hb:b=c'
   ·subst hb;rw [ag];rcases Mg with z|z
    ·rw [z] at e;cases e
    ·rw [z] at e;exact e
   ·rw [aa hb];exact e
  have Ka:∀fo a,H a≠none→(∀vs,H a≠some (.tup vs))→G a=none→(upd (upd G c' (.frz oc bA)) f (.frz fo bA)) a=none:=fun fo a h1 _ h2=>by
   have N0:a≠f:=fun z=>h1 (by rw [z];exact hf)
   rw [aa N0]
   by_cases ha:a=c'
   ·subst ha;rcases hc with z|z
    ·exact absurd z h1
    ·rw [z.2] at h2;cases h2
   ·rw [aa ha];exact h2
  refine⟨.ref f,_,I',rfl,q f (upd (upd G c' (.frz oc bA)) f (.frz _ bA)) _ ⟨⟨sG _,fun b u e=>?_,fun b u e=>?_,Ka _,fun _ P' q' m=>?_⟩,c',oc,cF,t,eR,(X.mg "__name__").getD .none,ag,by rw [aa EA,ag],hd,hv⟩⟩
  ·have y6:b≠f:=fun z=>by rw [z,hf] at e;cases e
   by_cases EG:b=P
   ·subst EG;rw [hP] at e;cases e;obtain⟨m,rfl⟩:=more
    exact .inr ⟨kJ,m,rfl,by unfold fw;rw [aa (Ne.symm M9),aa (Ne.symm MB),ag]⟩
   ·have e2:fw H P om c' oc f (PySem.W.kla_obj "<lambda>" (X.env.qual++"<lambda>") params body scope cl ((X.mg "__name__").getD .none) c' eR) b=H b:=by
     unfold fw;rw [aa y6]
     by_cases hb:b=c'
     ·subst hb;rw [ag];rcases hc with z|z
      ·rw [z] at e;cases e
      ·rw [z.1]
     ·rw [aa hb,aa EG]
    rw [e2];exact gj.refl H b u e
  ·by_cases y6:b=f
   ·subst y6;rw [ag] at e;rw [fo];exact e
   ·rw [aa y6] at e;unfold fw;rw [aa y6]
    by_cases hb:b=c'
    ·subst hb;rw [ag] at e⊢;exact e
    ·rw [aa hb] at e⊢;have EG:b≠P:=fun z=>by rw [z,nG] at e;cases e
     rw [aa EG];exact sg _ _ e
  ·obtain⟨n1,qs,hq1,tr1,al1⟩:=tb P' q' m
   have JJ:P'≠f:=fun z=>by rw [z,hf] at hq1;cases hq1
   have gq:P'≠c':=fun z=>by
    rcases hc with y|y
    ·rw [z,y] at hq1;cases hq1
    ·rw [z,y.1] at hq1;cases hq1
   refine⟨by rw [aa JJ,aa gq];exact n1,?_⟩
   by_cases hPP:P'=P
   ·subst hPP;rw [hP] at hq1;cases hq1;refine⟨om,by unfold fw;rw [aa JJ,aa gq,ag],Nk,fun pos' cv y=>?_⟩
    rcases Ni pos' cv y with y|y
    ·obtain⟨c2,oc2,cvs2,t2,e1,e2,e3,e4⟩:=al1 pos' cv y
     exact⟨c2,oc2,cvs2,t2,e1,sG _ _ _ e2,e3,e4⟩
    ·exact⟨c',oc,cF,t,y,by rw [aa EA,ag],hd,by rw [huq q' m];exact hv⟩
   ·refine⟨qs,by unfold fw;rw [aa JJ,aa gq,aa hPP];exact hq1,tr1,fun pos' cv y=>?_⟩
    obtain⟨c2,oc2,cvs2,t2,e1,e2,e3,e4⟩:=al1 pos' cv y
    exact⟨c2,oc2,cvs2,t2,e1,sG _ _ _ e2,e3,e4⟩
end
end Ci
namespace Ci
open PySem L2
section
variable{Γ:Pg}{X:Cx}{W:Wd}{F:bj}{N:List Str}{sc:Scope}{k:Nat}
structure wo(N:List Str)(sc:Scope)(g:Str)(idx aU:List Nat)(params:Arguments)(body:Expr)(scope:Scope):Prop where
 lb:wA g idx params body scope=true
 cn:aU.map (fun i=>N[i]?)=(aZ scope).map some
 cc:∀y∈aZ scope,sc.names.lookup y=some .cell
noncomputable def EZ(X:Cx)(W:Wd)(F:bj)(N:List Str)(sc:Scope)(g:Str)(idx aU:List Nat)(es:Es):TA:=fun σ H Q=>∃H0 G env,SR W H0 env σ G H∧Out X W (aB F es env) σ G H fun as=>∀vs G1 H1,aE W G H G1 H1→ae W G1 as vs→∀params body scope f G2 H2,wo N sc g idx aU params body scope→m5 X W params body scope (bz X.env (aZ scope)) G1 H1 G2 H2 f→Q (vs++[.ref f]) H2
theorem xI(C:dw Γ F W N sc k X)(ok:X.Ok){g:Str}{idx aU:List Nat}{params:Arguments}{body:Expr}{scope:Scope}(a:wo N sc g idx aU params body scope):closureFor scope X.env=pure (bz X.env (aZ scope)):=by
 refine gz fun y hy hf=>ok.has y.1 (.inl ?_)
 show X.env.scope.names.lookup y.1=_
 rw [C.hsc];refine a.cc y.1 ?_;unfold aZ;rw [List.mem_reverse,List.mem_map];exact⟨y,List.mem_filter.mpr ⟨hy,by rw [hf];rfl⟩,rfl⟩
theorem AM(C:dw Γ F W N sc k X)(hl:Γ.hl=true){g:Str}{idx aU:List Nat}{params:Arguments}{body:Expr}{scope:Scope}{pos:Pos}(a:wo N sc g idx aU params body scope):PA X [.Lambda params body scope pos] (EZ X W F N sc g idx aU .nil):=by
 obtain⟨ps,_,_,_,_,e1,_⟩:=sZ a.lb
 intro pos' pins s σ H Q I h;refine bO (vN C hl e1 (xI C I.ok a)) dg rfl pos' pins s σ H Q I ?_;obtain⟨H0,G,env,sr,o⟩:=h
 rw [aB] at o;refine⟨G,sr.sub,sr.tab,fun f G2 H2 m=>?_⟩
 exact o [] G H (.refl sr.sub) .nil params body scope f G2 H2 a m
theorem xb{g:Str}{idx aU:List Nat}{e:E}{es:Es}{p:Expr}{ps:List Expr}(vW:fv (.cons e es)=true)(he:GE X W F e p)(hs:PA X ps (EZ X W F N sc g idx aU es))(dB:starEach (p::ps) X.env=(false,eval p X.env)::starEach ps X.env):PA X (p::ps) (EZ X W F N sc g idx aU (.cons e es)):=
 L2.PA.imp (bO he hs dB) fun σ H Q h=>by
  obtain⟨H0,G,env,sr,o⟩:=h
  rw [aB] at o;unfold fv at vW;rw [Bool.and_eq_true] at vW;refine one sr o fun q v G1 H1 g1 t1 bD o1=>⟨H0,G1,env,bD,o1.bind.imp fun as ha vs G2 H2 g2 l=>?_⟩
  intro params body scope f G3 H3 la lm;have:=ha (v::vs) G2 H2 (g1.trans g2) (.cons (Rep.same g2.g q (t1.rep vW.1)) l) params body scope f G3 H3 la lm
  simpa using this
theorem lookup_all{Z:List (Addr×Obj)}{h:Heap}(ha:∀q∈Z,h.get? q.1=some q.2):∀{c:Addr} {o:Obj},(c,o)∈Z→Z.lookup c=some o:=by
 induction Z with
 |nil=>intro c o m;cases m
 |cons q Z ih=>
  intro c o m;obtain⟨c1,o1⟩:=q
  rw [List.lookup_cons];cases e:c==c1 with
  |true=>
   have e2:=beq_iff_eq.mp e
   subst e2;have h1:=ha (c,o1) List.mem_cons_self
   have h2:h.get? c=some o:=ha (c,o) m
   rw [h1] at h2;exact h2
  |false=>
   rcases List.mem_cons.mp m with z|z
   ·cases z;simp at e
   ·exact ih (fun q hq=>ha q (List.mem_cons_of_mem _ hq)) z
theorem pR{H0 G H:Hp}{env:Sl}{σ:St}(sr:SR W H0 env σ G H):∀{aU:List Nat} {cs:List PV},iR env aU=.ok cs→∃ws:List V,ae W G cs ws∧ws.length=aU.length∧∀(j:Nat) (i:Nat),aU[j]?=some i→∃v,ws[j]?=some v∧σ[i]?=some (some v)
 |[],cs,h=>by
  unfold iR at h;cases h;exact⟨[],.nil,rfl,fun j i e=>by simp at e⟩
 |i::aU,cs,h=>by
  unfold iR at h;obtain⟨p,hp,h⟩:=Res.bind_ok h
  obtain⟨ps,ji,h⟩:=Res.bind_ok h
  cases h;have hs:env[i]?=some (.val p):=by
   cases e:env[i]? with
   |none=>rw [e] at hp;cases hp
   |some s=>rw [e] at hp;cases s<;>cases hp;rfl
  obtain⟨o,h1,v,rfl,rv⟩:=sr.slot i _ hs
  obtain⟨ws,l1,l2,l3⟩:=pR sr ji
  refine⟨v::ws,.cons rv l1,by simp [l2],fun j k e=>?_⟩
  cases j with
  |zero=>simp at e;subst e;exact⟨v,rfl,h1⟩
  |succ j=>simpa using l3 j k (by simpa using e)
theorem kh{env:Sl}(c:Str):∀{aU:List Nat},iR env aU≠.exc c
 |[]=>fun z=>nomatch z
 |i::aU=>fun z=>by
  unfold iR at z;rcases Res.bind_exc z with z|⟨p,_,z⟩
  ·cases e:env[i]? with
   |none=>rw [e] at z;cases z
   |some s=>rw [e] at z;cases s<;>cases z
  ·rcases Res.bind_exc z with z|⟨ps,_,z⟩
   ·exact kh c z
   ·cases z
theorem uI(C:dw Γ F W N sc k X)(hl:Γ.hl=true){q:Hs}{aU:List Nat}{fa:Addr}{fd:FuncData}{pn:List Str}(FO:fj X.prog X.w X.K X.mg X.base (dC X.prog X.w) k fa fd pn (vn W F q.f pn.length (some (q.g,q.idx))))(hb:Binds X.K fd pn []){pins:List (Addr×Obj)}{σ:St}{H0 G H:Hp}{env:Sl}{s:Shared}{Q:VK}{us:List Value}{vs:List V}{as cs:List PV}{params:Arguments}{body:Expr}{scope:Scope}{f c':Addr}{oc:Obj}{cF:Array Value}{t:Tok}{eR pm:Value}
 (I:Inv X pins σ H s) (sr:SR W H0 env σ G H) (a:wo N sc q.g q.idx aU params body scope) (IP:iR env aU=.ok cs) (l:ae W G as vs) (fo:G f=some (.frz (PySem.W.kla_obj "<lambda>" (X.env.qual++"<lambda>") params body scope (bz X.env (aZ scope)) pm c' eR) bA)) (co:G c'=some (.frz oc bA)) (cd:oc.data=.fields cF) (cn:cF[1]?=some (.str (X.env.qual++"<lambda>") t))
 (hlen:(vs++[V.ref f]).length=pn.length) (r:Vals (vs++[.ref f]) us) (o:Out X W (F q.f (as++cs)) σ G H fun p=>cL W G H p Q):wpAny (model X.prog X.w) X.A (call (.ref fa) us) (EP X pins σ Q) X.xe s:=by
 have xB:F q.f (as++cs)≠.bad:=fun z=>by rw [z] at o;exact o
 obtain⟨ws,rws,lws,pws⟩:=pR sr IP
 have dF:∀y∈aZ scope,∃c,X.env.cells.lookup y=some c:=fun y hy=>I.ok.has y (.inl (by show X.env.scope.names.lookup y=_;rw [C.hsc];exact a.cc y hy))
 have call:((aZ scope).all fun y=>(X.env.cells.lookup y).isSome)=true:=List.all_eq_true.mpr fun y hy=>by obtain⟨c,e⟩:=dF y hy;rw [e];rfl
 let Z:List (Addr×Obj):=(aZ scope).filterMap fun y=>(X.env.cells.lookup y).bind fun c=>(s.heap.get? c).map fun o=>(c,o)
 have Fy:∀q∈Z,∃y,y∈aZ scope∧X.env.cells.lookup y=some q.1∧s.heap.get? q.1=some q.2:=fun q hq=>by
  obtain⟨y,hy,e⟩:=List.mem_filterMap.mp hq
  obtain⟨c,hc,e⟩:=Option.bind_eq_some_iff.mp e
  obtain⟨o,ho,rfl⟩:=Option.map_eq_some_iff.mp e
  exact⟨y,hy,hc,ho⟩
 have JN:∀q∈Z,s.heap.get? q.1=some q.2:=fun q hq=>let⟨_,_,_,h⟩:=Fy q hq;h
 have LK:∀y c o,y∈aZ scope→X.env.cells.lookup y=some c→s.heap.get? c=some o→Z.lookup c=some o:=fun y c o hy hc ho=>lookup_all JN (List.mem_filterMap.mpr ⟨y,hy,by rw [hc];show(s.heap.get? c).map _=_;rw [ho];rfl⟩)
 have E4:∀b o,Z.lookup b=some o→∃y,y∈aZ scope∧X.env.cells.lookup y=some b∧s.heap.get? b=some o:=fun b o e=>by
  obtain⟨y,h1,h2,h3⟩:=Fy (b,o) (PySem.W.mem_of_lookupK e)
  exact⟨y,h1,h2,h3⟩
 have zc:∀b o,Z.lookup b=some o→∃v,o.data=.cell v:=fun b o e=>by
  obtain⟨y,_,h2,h3⟩:=E4 b o e
  obtain⟨v,o',h4,h5⟩:=I.cell y b h2
  rw [h3] at h4;cases h4;exact⟨v,h5⟩
 have Fb:∀b o,Z.lookup b=some o→H b=none:=fun b o e=>by obtain⟨y,_,h2,_⟩:=E4 b o e;exact I.freeC y b h2
 have LN:∀b o,Z.lookup b=some o→G b=none:=fun b o e=>sr.sub.free (Fb b o e)
 have o9:∀b u,G b=some u→Z.lookup b=none:=fun b u e=>by
  cases y:Z.lookup b with
  |none=>rfl
  |some o=>rw [LN b o y] at e;cases e
 have FU:∀x c,(bz X.env (aZ scope)).lookup x=some c→X.env.cells.lookup x=some c:=dS call
 have Jm:∀x c,(bz X.env (aZ scope)).lookup x=some c→x∈aZ scope:=fun x c e=>by
  have:=PySem.mem_of_lookup e
  unfold bz at this;obtain⟨y,hy,e2⟩:=List.mem_map.mp this
  cases e2;exact hy
 have LG:∀b o,Z.lookup b=some o→X.s₀.heap.objs.size≤b:=fun b o e=>by
  obtain⟨y,_,h2,_⟩:=E4 b o e
  exact I.ok.cab y b (C.fl hl y) h2
 have zA:qZ Z H (d0 X.stack) s.heap:=⟨fun b o e=>let⟨_,_,_,h⟩:=E4 b o e;h,Fb,fun b o e Jt=>by
  obtain⟨y,_,h2,h3⟩:=E4 b o e
  rcases List.mem_cons.mp (I.stkSub b Jt) with z|z
  ·exact I.cne y b h2 z
  ·obtain⟨_,o',h4,_⟩:=I.ok.funs.mem z
   exact absurd (Heap.lt_size h4) (Nat.not_lt.mpr (LG b o e))⟩
 have zb:∀b o,Z.lookup b=some o→X.base.get? b=none:=fun b o e=>by
  cases y:X.base.get? b with
  |none=>rfl
  |some o'=>exact absurd (Heap.lt_size (I.ok.bs b o' y).1) (Nat.not_lt.mpr (LG b o e))
 have NM:(aZ scope).length=aU.length:=by have:=congrArg List.length a.cn;simpa using this.symm
 have cr:nQ W (withZ Z G) q.g q.idx cs (.ref f):=by
  refine⟨f,c',oc,cF,t,eR,pm,params,body,scope,_,bz X.env (aZ scope),Z,ws,rfl,⟨a.lb,by rw [af (o9 f _ fo)];exact fo,by rw [af (o9 c' _ co)];exact co,cd,cn,o9 f _ fo,o9 c' _ co,fun x y c h1 h2=>I.ok.inj x y c (FU x c h1) (FU y c h2),fun y hy=>ir hy,fun x c h=>?_,fun b o e=>aW e,zc,fun i y c h1 h2 v h3=>?_,by rw [lws,NM],by rw [pd LN];exact rws⟩⟩
  ·obtain⟨v,o,h1,h2⟩:=I.cell x c (FU x c h)
   exact⟨o,v,LK x c o (Jm x c h) (FU x c h) h1,h2⟩
  ·have hi:i<aU.length:=by rw [←lws];exact(List.getElem?_eq_some_iff.mp h3).1
   obtain⟨v',q1,q2⟩:=pws i aU[i] (List.getElem?_eq_getElem hi)
   rw [h3] at q1;cases q1;have M3:X.N[aU[i]]?=some y:=by
    rw [C.hN];have:=congrArg (fun l=>l[i]?) a.cn
    simp only [List.getElem?_map,h1,List.getElem?_eq_getElem hi,Option.map_some] at this;exact Option.some.inj this
   obtain⟨m,_,hloc⟩:=I.loc
   obtain⟨u,ru,lk⟩:=hloc aU[i] y v M3 q2 (.inr (.inl (by rw [C.hsc];exact a.cc y (List.mem_of_getElem? h1))))
   have KG:=FU y c h2
   rcases lk with⟨z,_⟩|⟨_,c2,hc2,o,ho,hd⟩
   ·have z2:X.env.scope.names.lookup y=some .local:=z
    rw [C.hsc,a.cc y (List.mem_of_getElem? h1)] at z2;cases z2
   ·rw [KG] at hc2;cases hc2;exact⟨u,o,ru,LK y c o (List.mem_of_getElem? h1) KG ho,hd⟩
 have Jv:us.length=pn.length:=by rw [←r.length];exact hlen
 have gL:=hb s us I.kIn (by rw [List.append_nil];exact Jv)
 rw [List.append_nil] at gL;have Nc:ae W (withZ Z G) as vs:=ae.same (fun b u e=>by rw [af (o9 b u e)];exact e) as l
 have Nf:∀G' H',aE W (withZ Z G) (withZ Z H) G' H'→∀b o,Z.lookup b=some o→G' b=some (.frz o bA):=fun G' H' g b o e=>g.g _ _ (aW e)
 refine wpAny_call (codeAny_mono (FO.run X.A X.stack s (withZ Z H) ⟨us,[]⟩ us _ (fun v H'=>Q v (aV Z H')) (fun Cv ao H'=>∃c,F q.f (as++cs)=.exc c∧XE W c G H Cv ao (aV Z H')) C.rm (I.env0.withZ zA zb) gL r ⟨hlen,withZ Z G,as++cs,tJ sr.sub,qb sr.tab sr.sub Fb,⟨as,cs,vs,.ref f,rfl,rfl,Nc,cr⟩,?_⟩) fun rr s' hr=>?_)
 ·cases z:F q.f (as++cs) with
  |ok p=>
   rw [z] at o;exact fun v G' H' g' rp=>o v _ _ (g'.lz sr.sub zc Fb) (Rep.less (Nf G' H' g') p rp)
  |exc c=>
   intro Cv ao H' y;obtain⟨C4,a4,G4,y1,y2,y3,y4,y5⟩:=y
   exact⟨c,rfl,C4,a4,_,y1,y2,y3,y4,y5.lz sr.sub zc Fb⟩
  |bad=>exact absurd z xB
 ·cases rr with
  |error e=>
   have hr:dC X.prog X.w X.stack H s (fun Cv ao H'=>∃c,F q.f (as++cs)=.exc c∧XE W c G H Cv ao H') e s':=dC.less zA hr
   cases z:F q.f (as++cs) with
   |ok q=>
    obtain⟨a,C',t,vs,H',B,rfl,Fl⟩:=hr
    obtain⟨c,e1,_⟩:=Fl.ends
    rw [z] at e1;cases e1
   |exc c=>
    rw [z] at o;refine o pins G H s e s' I (.refl sr.sub) (A1.imp hr fun C1 a H' y=>?_);obtain⟨c',e1,y⟩:=y
    rw [z] at e1;cases e1;exact y
   |bad=>exact absurd z xB
  |ok fl=>
   cases fl with
   |ret u=>exact I.after (CE.less zA hr)
   |next=>exact False.elim hr
   |brk=>exact False.elim hr
   |cont=>exact False.elim hr
theorem yj(C:dw Γ F W N sc k X)(hl:Γ.hl=true){q:Hs}(hq:q∈Γ.hs){aU:List Nat}{es:Es}{p:Expr}{ps:List Expr}{np pos:Pos}(hg:f7 sc q.h=true)(ho:okN q.h=true)(hn:q.np=g6 es+1)(ha:PA X (p::ps) (EZ X W F N sc q.g q.idx aU es))
 (dB:starEach (p::ps) X.env=(false,eval p X.env)::starEach ps X.env) (hpl:(backTo pos (starEach ps X.env)).any (·.1)=false):GE X W F (.callL q.f es q.g q.idx aU) (.Call (.Name q.h np) (p::ps) [] pos):=by
 intro pins s σ H Q I h;obtain⟨H0,G,env,sr,o⟩:=h
 rw [aA] at o;obtain⟨fa,fd,pn,FO,hm,hk,hb,hpn⟩:=(C.hfs q hq).ex
 refine wpAny_Call_Name_kw (fY I (dR C hg) hm ?_ (cM ho).1);refine PySem.W.callWith_K (h₀:=X.base) I.ok.mod.kin hk (bC (ha pos pins s σ H (fun vs H2=>∃G2 as cs r8 params body scope f c' oc cF t eR pm,vs=r8++[.ref f]∧as.length=g6 es∧SR W H0 env σ G2 H2∧wo N sc q.g q.idx aU params body scope∧iR env aU=.ok cs∧ae W G2 as r8∧G2 f=some (.frz (PySem.W.kla_obj "<lambda>" (X.env.qual++"<lambda>") params body scope (bz X.env (aZ scope)) pm c' eR) bA)∧G2 c'=some (.frz oc bA)∧oc.data=.fields cF∧cF[1]?=some (.str (X.env.qual++"<lambda>") t)∧Out X W (F q.f (as++cs)) σ G2 H2 fun p=>cL W G2 H2 p Q) I ?_) fun us s1 ⟨vs,H1,I1,r,y⟩=>⟨I1.kIn,?_⟩) dB hpl
 ·refine⟨H0,G,env,sr,?_⟩;cases e1:aB F es env with
  |bad=>rw [e1] at o;exact o
  |exc c=>rw [e1] at o;exact o
  |ok as=>
   rw [e1] at o;have o:Out X W ((iR env aU).bind fun cs=>F q.f (as++cs)) σ G H _:=o
   cases e2:iR env aU with
   |bad=>rw [e2] at o;exact o.elim
   |exc c=>exact absurd e2 (kh c)
   |ok cs=>
    rw [e2] at o;have o:Out X W (F q.f (as++cs)) σ G H _:=o
    intro vs G1 H1 g1 l params body scope f G2 H2 la lm;obtain⟨g2,c',oc,cF,t,eR,pm,m1,m2,m3,m4⟩:=lm
    exact⟨G2,as,cs,vs,params,body,scope,f,c',oc,cF,t,eR,pm,rfl,gP e1,(sr.grow g1).grow g2,la,rfl,ae.same g2.g as l,m1,m2,m3,m4,(o.grow (g1.trans g2)).imp fun p hp v G' H' g' rp=>hp v G' H' ((g1.trans g2).trans g') (.of rp)⟩
 ·obtain⟨G2,as,cs,r8,params,body,scope,f,c',oc,cF,t,eR,pm,rfl,hal,eX,la,hcs,l,m1,m2,m3,m4,o2⟩:=y
  exact uI C hl FO hb I1 eX la hcs l m1 m2 m3 m4 (by rw [List.length_append,l.length,hal,hpn,hn];rfl) r o2
end
end Ci
namespace L2
open PySem PySem.Spec PyProof.Rows
theorem qH:typeLookup (.type "list_reverseiterator") "__len__"=pure none:=by rw [typeLookup_type,builtinLookup_eq_fast];kernel_rfl
theorem wm:typeLookup (.type "list_reverseiterator") "__length_hint__"=pure (some (.builtin "list_reverseiterator.__length_hint__")):=by rw [typeLookup_type,builtinLookup_eq_fast];kernel_rfl
section
variable{prog:Program}{w:World}{A:Around}{E:Value→Shared→Prop}{s:Shared}
theorem zx{R:Result→Shared→Prop}(hh:A.handled=none){I l:Addr}(fc:l≠I){items:Array Value}(hit:s.heap.IsRevIter I l ((items.size:Int)-1))(hl:s.heap.IsList l items)(S:Addr)(EN:S≠I)(Ho:S≠l)(res:Value)(c₀:Nat)(hS:s.heap.get? S=some {cls:=.type "list",data:=.seq #[] c₀})
 (hR:∀h' tk cA c',(∀b o,b≠S→b≠I→s.heap.get? b=some o→h'.get? b=some o)→h'.get? S=some {cls:=.type "list",dict:=none,data:=.seq cA c',slots:=#[]}→
  ItemsOf (fun i v=>items[items.size-1-i]?=some v) cA items.size→R (.ok (.ret res)) {s with heap:=h',toks:=tk}) (hn:items.size≤sizeLine):
 wpAny (model prog w) A.in1 (Builtin.List.listExtendWith (.ref S) (.ref I) res)
  (fun fin s'=>match fin with|.done f=>R (.ok f) s'|.again c'=>c'.quiet=true∧codeAny (model prog w) A c' R s') (fun e s'=>R (.error e) s') s:=by
 have Mn:S∉[I,l]:=fun hm=>by
  rcases List.mem_cons.mp hm with e|hm
  ·exact EN e
  ·exact Ho (List.mem_singleton.mp hm)
 unfold Builtin.List.listExtendWith;refine wpAny_bind (wpAny_typeOf hit.typeIs ?_);have h1:Builtin.List.listSameRef (.ref S) (.ref I)=false:=by simp [Builtin.List.listSameRef,EN]
 have h2:(Value.type "list_reverseiterator"==Value.type "list")=false:=by decide
 have h3:(Value.type "list_reverseiterator"==Value.type "tuple")=false:=by decide
 simp only [h1,h2,h3,Bool.or_false,Bool.false_eq_true,if_false];refine wpAny_bind (wpAny_pyIter_revIter hit ?_);refine wpAny_bind (wpAny_holding ?_);unfold Builtin.List.listLengthHint;refine wpAny_bind (wpAny_specialOf hit.typeIs qH ?_);show wpAny _ A.in1 (specialOf (Value.ref I) (Str.ofString "__length_hint__")>>=_) _ _ _;refine wpAny_bind (wpAny_specialOf hit.typeIs wm ?_)
 wp_delta
 refine wpAny_bind (wpAny_isInstance (T:="list_reverseiterator") (v:=.ref I) (b:=true) hit.typeIs (by rw [isSubtype_type];kernel_rfl) ?_);refine wpAny_pure ?_;rw [if_neg (by decide)];refine wpAny_pure ⟨plainId_quiet F.plain_extend_loop _,codeAny_extend_loopS (Walks.listRev (prog:=prog) (w:=w) (A:=A.in1) hh I l fc items).toS hn _ Mn _ items.size 0 _ _ _ rfl (Nat.zero_le _) ⟨Nat.zero_le _,by simpa using hit,hl⟩ hS (ItemsOf.nil _) fun s' cA c' hm rj jl=>?_⟩
 rw [Moved.eq_with hm];refine hR s'.heap s'.toks cA c' (fun b ob hb IY e=>hm.heap b ob (fun hmem=>?_) e) rj jl
 rcases List.mem_cons.mp hmem with e'|hmem
 ·exact hb e'
 ·exact IY (List.mem_singleton.mp hmem)
theorem wL{R:Result→Shared→Prop}(hh:A.handled=none){I l:Addr}(fc:l≠I){items:Array Value}(hit:s.heap.IsRevIter I l ((items.size:Int)-1))(hl:s.heap.IsList l items)(S:Addr)(EN:S≠I)(Ho:S≠l)(hS:s.heap.get? S=some {cls:=.type "list",data:=.seq #[]})
 (hR:∀h' tk cA c',(∀b o,b≠S→b≠I→s.heap.get? b=some o→h'.get? b=some o)→h'.get? S=some {cls:=.type "list",dict:=none,data:=.seq cA c',slots:=#[]}→
  ItemsOf (fun i v=>items[items.size-1-i]?=some v) cA items.size→R (.ok (.ret .none)) {s with heap:=h',toks:=tk}) (hn:items.size≤sizeLine):
 wpAny (model prog w) A.in1 (Builtin.«list.__init__» ⟨[.ref S,.ref I],[]⟩)
  (fun fin s'=>match fin with|.done f=>R (.ok f) s'|.again c'=>c'.quiet=true∧codeAny (model prog w) A c' R s') (fun e s'=>R (.error e) s') s:=by
 show wpAny _ _ (do let old←Builtin.List.listItems (.ref S);Builtin.List.listUpdate (.ref S) (fun _=>#[]);letGo old.toList.reverse;Builtin.List.listExtendWith (.ref S) (.ref I) .none) _ _ s
 refine wpAny_bind ?_;unfold Builtin.List.listItems;refine wpAny_bind (wpAny_seqItems hS rfl (wpAny_pure ?_));show wpAny _ _ (updateSeq S (fun _=>#[])>>=fun _=>letGo (#[]:Array Value).toList.reverse>>=fun _=>Builtin.List.listExtendWith (.ref S) (.ref I) .none) _ _ s
 refine wpAny_bind (wpAny_updateSeq hS rfl ?_);have hS₂:=Heap.get?_update_self (Obj.mapSeq (fun _=>(#[]:Array Value))) hS rfl
 have Ip:∀b o,b≠S→s.heap.get? b=some o→(s.heap.update S (Obj.mapSeq (fun _=>(#[]:Array Value)))).get? b=some o:=
  fun b o hb e=>(Heap.get?_update_other _ _ (Ne.symm hb)).trans e
 refine wpAny_bind (wpAny_letGo ?_);refine zx (hn:=hn) hh fc (hit.at fun o e=>Ip _ _ (Ne.symm EN) e) (hl.at fun o e=>Ip _ _ (Ne.symm Ho) e) S EN Ho .none _ hS₂ fun h' tk cA c' hk rj jl=>?_
 exact hR h' tk cA c' (fun b o hb IY e=>hk b o hb IY (Ip b o hb e)) rj jl
theorem kT{Q:Value→Shared→Prop}(hh:A.handled=none){I l:Addr}(fc:l≠I){items:Array Value}(hit:s.heap.IsRevIter I l ((items.size:Int)-1))(hl:s.heap.IsList l items)
 (hQ:∀h' tk cA c',(∀b o,b≠I→s.heap.get? b=some o→h'.get? b=some o)→
  h'.get? s.heap.objs.size=some {cls:=.type "list",dict:=none,data:=.seq cA c',slots:=#[]}→ItemsOf (fun i v=>items[items.size-1-i]?=some v) cA items.size→Q (.ref s.heap.objs.size) {s with heap:=h',toks:=tk}) (hn:items.size≤sizeLine):
 wpAny (model prog w) A (call (.type "list") [.ref I]) Q E s:=by
 refine callType_codes (Q₁:=fun obj s₁=>obj=.ref s.heap.objs.size∧s₁={s with heap:=s.heap.push {cls:=.type "list",data:=.seq #[]}}) F.called_list (F.typeCall_list_1 _) F.entry_list_init
  (code_list_new _ ⟨rfl,rfl⟩) fun obj s₁ h₁=>?_
 obtain⟨rfl,rfl⟩:=h₁
 have hS:(s.heap.push {cls:=.type "list",data:=.seq #[]}).get? s.heap.objs.size=some {cls:=.type "list",data:=.seq #[]}:=Heap.get?_push_size _ rfl
 have n1:s.heap.objs.size≠I:=fun e=>let⟨o,ho,_⟩:=hit;absurd (Heap.lt_size ho) (by rw [e];exact Nat.lt_irrefl _)
 have n2:s.heap.objs.size≠l:=fun e=>let⟨o,ho,_⟩:=hl;absurd (Heap.lt_size ho) (by rw [e];exact Nat.lt_irrefl _)
 refine⟨⟨_,hS,rfl⟩,F.args_list_init_2 _ _,wL (A:=A.in1) (hn:=hn) hh fc (hit.at fun o e=>Heap.get?_push_of_some _ e) (hl.at fun o e=>Heap.get?_push_of_some _ e) _ n1 n2 hS fun h' tk cA c' hk rj jl=>?_⟩
 exact⟨rfl,hQ h' tk cA c' (fun b o hb e=>hk b o (Nat.ne_of_lt (Heap.lt_size e)) hb (Heap.get?_push_of_some _ e)) rj jl⟩
end
section
variable{X:Cx}{e:Expr}{te:TE}{p1 p2 pos uR:Pos}
noncomputable def NK(K:PySem.W.Frag)(te:TE):TE:=fun σ H Q=>te σ H fun x H1=>∃l vs,x=.ref l∧eh K H1 l vs∧∀p,H1 p=none→Q (.ref p) (upd H1 p (.lst vs.reverse))
def FN(xs:List V)(P:V→Prop):Prop:=match xs with
 |[x]=>P x
 |_=>False
theorem Am{xs:List V}{P:V→Prop}(h:FN xs P):∃x,xs=[x]∧P x:=by
 cases xs with
 |nil=>exact h.elim
 |cons x r=>
  cases r with
  |nil=>exact⟨x,rfl,h⟩
  |cons _ _=>exact h.elim
theorem ye{vs:List V}{us:List Value}(r:Vals vs us):Vals vs.reverse us.reverse:=by
 induction r with
 |nil=>exact .nil
 |cons h t ih=>
  rw [List.reverse_cons,List.reverse_cons];exact ih.append (.cons h .nil)
theorem rA(hc:X.calm=true)(hg:Gl X "list")(hm:X.mg "list"=none)(HX:Gl X "reversed")(Bk:X.mg "reversed"=none)(h:PE X e te)(he:starEach [e] X.env=(false,eval e X.env)::starEach [] X.env):
 PE X (.Call (.Name "list" p1) [.Call (.Name "reversed" p2) [e] [] uR] [] pos) (NK X.K te):=by
 intro pins s σ H Q I q;refine wpAny_Call_Name_kw (dJ I hg hm (u:=.type "list") (by decide+kernel) ?_);refine PyProof.Rows.callWith_type1 ?_ rfl rfl;show wpAny _ _ (spliced ((false,eval (.Call (.Name "reversed" p2) [e] [] uR) X.env)::backTo pos (starEach [] X.env))) _ _ s;refine Calls.spliced_cons ?_;refine wpAny_Call_Name_kw (dJ I HX Bk (u:=.type "reversed") (by decide+kernel) ?_);refine PyProof.Rows.callWith_type1 (bC (bO h dg he uR pins s σ H (fun xs H1=>FN xs fun x=>∃l vs,x=.ref l∧eh X.K H1 l vs∧∀p,H1 p=none→Q (.ref p) (upd H1 p (.lst vs.reverse))) I q) fun us s1 ⟨xs,H1,I1,r1,q1⟩=>?_) he rfl
 ·obtain⟨x,rfl,l,vs,rfl,hq,q1⟩:=Am q1
  obtain⟨u,rfl,rx⟩:=vals1 r1
  cases rx;obtain⟨aq,r',pl,hz⟩:=I1.list hq
  have hlen:=r'.length
  refine call_reversed_list pl.isList ?_;refine Calls.spliced_nil ?_;have hn:aq.toArray.size≤sizeLine:=by simp only [List.size_toArray]<;>omega
  obtain⟨ol,hol,_⟩:=id pl.isList
  have fc:l≠s1.heap.objs.size:=fun z=>absurd (Heap.lt_size hol) (by rw [z];exact Nat.lt_irrefl _)
  refine kT (I1.ok.hd hc) fc ⟨_,Heap.get?_push_size _ rfl,rfl,rfl⟩ (pl.isList.at fun o z=>Heap.get?_push_of_some _ z) (fun h' tk cA c' kp e ha=>?_) hn;have jl:cA.toList=aq.reverse:=by
   refine List.ext_getElem? fun i=>?_
   by_cases hi:i<aq.length
   ·rw [List.getElem?_reverse hi];have hs:cA.size=aq.length:=by rw [ha.1];simp
    have FJ:i<cA.size:=by omega
    have:=ha.2 i cA[i] (Array.getElem?_eq_getElem FJ)
    rw [Array.getElem?_toList,Array.getElem?_eq_getElem FJ,←this];simp
   ·rw [List.getElem?_eq_none (by rw [Array.length_toList,ha.1];simpa using hi),List.getElem?_eq_none (by rw [List.length_reverse];omega)]
  have rv:Vals vs.reverse cA.toList:=by rw [jl];exact ye r'
  exact⟨.ref (s1.heap.objs.size+1),_,I1.laid (t':=tk) (a:=s1.heap.objs.size+1) (fun b o z=>kp b o (Nat.ne_of_lt (Heap.lt_size z)) (Heap.get?_push_of_some _ z)) (Nat.le_succ _) (show bM X.prog X.w _ h' _ (.lst _) from⟨by rw [List.length_reverse];exact hz,cA.toList,c',rv,by simpa using e⟩),by rw [Heap.size_push];rfl,q1 _ (I1.hok.fresh (Nat.le_succ _))⟩
end
end L2
namespace Ci
open PySem L2
section
variable{Γ:Pg}{X:Cx}{W:Wd}{F:bj}{N:List Str}{sc:Scope}{k:Nat}
theorem vg{G:Hp}{p:PV}{v:V}(h:Rep W G p v):∀{ps:List PV} {vs:List V},ae W G ps vs→ae W G (ps++[p]) (vs++[v]):=by
 intro ps
 induction ps with
 |nil=>
  intro vs t;have:=t.length
  cases vs with
  |nil=>exact .cons h .nil
  |cons _ _=>cases this
 |cons q ps ih=>
  intro vs t;obtain⟨u,r,rfl,h1,t⟩:=t.uncons
  exact .cons h1 (ih t)
theorem xy{G:Hp}:∀{ps:List PV} {vs:List V},ae W G ps vs→ae W G ps.reverse vs.reverse:=by
 intro ps
 induction ps with
 |nil=>
  intro vs t;have:=t.length
  cases vs with
  |nil=>exact .nil
  |cons _ _=>cases this
 |cons q ps ih=>
  intro vs t;obtain⟨u,r,rfl,h1,t⟩:=t.uncons
  rw [List.reverse_cons,List.reverse_cons];exact vg h1 (ih t)
theorem AX(C:dw Γ F W N sc k X){a:E}{pa:Expr}{p1 p2 pos uR:Pos}(hg:f7 sc "list"=true)(hm:Γ.bs.contains "list"=true)(HX:f7 sc "reversed"=true)(Bk:Γ.bs.contains "reversed"=true)(ha:GE X W F a pa)(he:starEach [pa] X.env=(false,eval pa X.env)::starEach [] X.env):
 GE X W F (.lrev a) (.Call (.Name "list" p1) [.Call (.Name "reversed" p2) [pa] [] uR] [] pos):=
 (rA C.calm (dR C hg) (C.bs _ (List.contains_iff_mem.mp hm)) (dR C HX) (C.bs _ (List.contains_iff_mem.mp Bk)) ha he).imp fun σ H Q h=>by
  obtain⟨H0,G,env,sr,o⟩:=h
  rw [aA] at o;refine one sr o fun p v G1 H1 g t bD o1=>?_
  cases p with
  |lst xs=>
   obtain⟨l,vs,rfl,h1,l1⟩:=t.top.lst bD.sub
   exact⟨l,vs,rfl,dI C.K h1,fun p hp=>cL.lst (W:=W) (G:=G1) (H:=H1) (xs:=xs.reverse) (fun w G' H' g' gh=>o1 w G' H' (g.trans g') (.of gh)) bD.sub (xy l1) hp⟩
  |_=>exact False.elim o1
end
end Ci
namespace Ci
open PySem L2
section
variable{Γ:Pg}{W:Wd}{F:bj}{k:Nat}
theorem Cg{X:Cx}{e:E}{p:Expr}(h:GE X W F e p)(he:∀whole,isTrue p X.env whole=(do let v←whole;standAt p.pos;holding [v] (truthy v))):GT X W F e p:=
 L2.PT.imp (BL h he) fun σ H Q hq=>Bu σ H Q hq
structure Lf(X:Cx)(W:Wd)(F:bj)(e:E)(p:Expr):Prop where
 ge:GE X W F e p
 gt:dQ e=true→GT X W F e p
 gw:dQ e=true→∀op vs pos,p=.BoolOp op vs pos→GW X W F e p
theorem aX{X:Cx}{e:E}{p:Expr}(h:GE X W F e p)(he:∀whole,isTrue p X.env whole=(do let v←whole;standAt p.pos;holding [v] (truthy v)))(hb:∀op vs pos,p≠.BoolOp op vs pos):Lf X W F e p:=
 ⟨h,fun _=>Cg h he,fun _ op vs pos e=>absurd e (hb op vs pos)⟩
theorem isTrue_plain{p:Expr}{env:Env}(h:(match p with|.UnaryOp .Not _ _=>false|.BoolOp .. =>false|.IfExp .. =>false|.Compare .. =>false|_=>true)=true):∀whole,isTrue p env whole=(do let v←whole;standAt p.pos;holding [v] (truthy v)):=by
 intro whole;cases p with
 |UnaryOp op a pos=>cases op<;>first|rfl|(exact absurd h zzf)
 |BoolOp _ _ _=>exact absurd h zzf
 |IfExp _ _ _ _=>exact absurd h zzf
 |Compare _ _ _ _=>exact absurd h zzf
 |_=>rfl
theorem iY{N:List Str}{sc:Scope}{g:Str}{idx aU:List Nat}:∀{es:Es} {ps:List Expr},su Γ N sc g idx aU es ps=true→∀env pos,(backTo pos (starEach ps env)).any (·.1)=false
 |.cons e es,p::ps,h,env,pos=>by
  replace h:=aC h
  rw [notStar h.1];show(false||(backTo pos (starEach ps env)).any (·.1))=false
  rw [iY h.2]
  rfl
 |.nil,[p],h,env,pos=>by
  cases p<;>first|(exact absurd h zzf)|rfl
 |.nil,[],h,_,_=>absurd h zzf
 |.nil,p::_::_,h,_,_=>by cases p<;>exact absurd h zzf
 |.cons _ _,[],h,_,_=>absurd h zzf
mutual
theorem bb:∀(e:E) {Γ:Pg} {N:List Str} {sc:Scope} {X:Cx} (C:dw Γ F W N sc k X) (p:Expr),aS Γ N sc e p=true→Lf X W F e p
 |.var i,Γ,N,sc,X,C,p,h=>by
  cases p<;>first|(exact absurd h zzf)|skip
  exact aX (DS C h) (fun _=>rfl) (fun _ _ _ z=>nomatch z)
 |.tmp i,Γ,N,sc,X,C,p,h=>by
  cases p<;>first|(exact absurd h zzf)|skip
  exact aX (Dw C h) (fun _=>rfl) (fun _ _ _ z=>nomatch z)
 |.cst q,Γ,N,sc,X,C,p,h=>by
  cases p<;>first|(cases q<;>exact absurd h zzf)|skip
  rename_i c _ _;cases q<;>cases c<;>first|(exact absurd h zzf)|skip
  ·exact aX (hZ Cn fun G=>.n) (fun _=>rfl) (fun _ _ _ z=>nomatch z)
  ·cases eq_of_beq h;exact aX (hZ Bv fun G=>.b) (fun _=>rfl) (fun _ _ _ z=>nomatch z)
  ·cases eq_of_beq h;exact aX (hZ xT fun G=>.i) (fun _=>rfl) (fun _ _ _ z=>nomatch z)
  ·cases eq_of_beq h;exact aX (hZ wG fun G=>.s) (fun _=>rfl) (fun _ _ _ z=>nomatch z)
 |.glob g q,Γ,N,sc,X,C,p,h=>by
  cases p<;>first|(exact absurd h zzf)|skip
  exact aX (Az C h) (fun _=>rfl) (fun _ _ _ z=>nomatch z)
 |.call f as,Γ,N,sc,X,C,p,h=>by
  cases p<;>first|(exact absurd h zzf)|skip
  rename_i fn args iQ pos;cases fn<;>first|(exact absurd h zzf)|skip
  rename_i g np;cases iQ with
  |cons _ _=>exact absurd h zzf
  |nil=>
   replace h:=aC h
   try simp only [Bool.and_eq_true,beq_iff_eq] at h
   obtain⟨⟨⟨⟨⟨rfl,h1⟩,h2⟩,h3⟩,h4⟩,h5⟩:=h
   have ga:=iZ as C args h5
   cases as with
   |nil=>
    cases args with
    |nil=>exact aX (wj C h1 h2 h3) (fun _=>rfl) (fun _ _ _ z=>nomatch z)
    |cons _ _=>exact absurd h5 zzf
   |cons e es=>
    cases args with
    |nil=>exact absurd h5 zzf
    |cons q qs=>
     have h6:=h5
     replace h6:=aC h6
     exact aX (AH C h1 h2 h3 h4 ga (notStar h6.1 _ _) (eU h6.2 _ _)) (fun _=>rfl) (fun _ _ _ z=>nomatch z)
 |.callv i as,Γ,N,sc,X,C,p,h=>by
  cases p<;>first|(exact absurd h zzf)|skip
  rename_i fn args iQ pos;cases fn<;>first|(exact absurd h zzf)|skip
  rename_i g np;cases iQ with
  |cons _ _=>exact absurd h zzf
  |nil=>
   replace h:=aC h
   simp only [Bool.and_eq_true] at h;obtain⟨⟨⟨⟨⟨h1,h2⟩,h3⟩,h4⟩,h6⟩,h5⟩:=h
   have ga:=iZ as C args h5
   cases as with
   |nil=>exact absurd h6 zzf
   |cons e es=>
    cases args with
    |nil=>exact absurd h5 zzf
    |cons q qs=>
     have h6:=h5
     replace h6:=aC h6
     exact aX (xq C (by rw [h1,h2,h3];rfl) h4 ga (notStar h6.1 _ _) (eU h6.2 _ _)) (fun _=>rfl) (fun _ _ _ z=>nomatch z)
 |.callL f as g idx aU,Γ,N,sc,X,C,p,h=>by
  cases p<;>first|(exact absurd h zzf)|skip
  rename_i fn args iQ pos;cases fn<;>first|(exact absurd h zzf)|skip
  rename_i hN np;cases iQ with
  |cons _ _=>exact absurd h zzf
  |nil=>
   replace h:=aC h
   simp only [Bool.and_eq_true,List.any_eq_true,beq_iff_eq] at h;obtain⟨⟨⟨⟨⟨⟨h1,h2⟩,h3⟩,h4⟩,h6⟩,q,hq,⟨⟨⟨rfl,rfl⟩,rfl⟩,rfl⟩,hd⟩,h5⟩:=h
   have Je:=of_decide_eq_true hd
   have ga:=A7 as C h1 q.g q.idx aU args h4 h5
   cases as with
   |nil=>exact absurd h6 zzf
   |cons e es=>
    cases args with
    |nil=>exact absurd h5 zzf
    |cons p qs=>
     have h6:=h5
     replace h6:=aC h6
     exact aX (yj C h1 hq h2 h3 Je ga (notStar h6.1 _ _) (iY h6.2 _ _)) (fun _=>rfl) (fun _ _ _ z=>nomatch z)
 |.blt b as,Γ,N,sc,X,C,p,h=>by
  cases p<;>first|(exact absurd h zzf)|skip
  rename_i fn args iQ pos;cases fn<;>first|(exact absurd h zzf)|skip
  rename_i g np;cases iQ with
  |cons _ _=>exact absurd h zzf
  |nil=>
   replace h:=aC h
   try simp only [Bool.and_eq_true,beq_iff_eq] at h
   obtain⟨⟨⟨⟨rfl,h1⟩,h2⟩,h3⟩,h5⟩:=h
   have ga:=iZ as C args h5
   cases as with
   |nil=>exact absurd h3 zzf
   |cons e es=>
    cases args with
    |nil=>exact absurd h5 zzf
    |cons q qs=>
     have h6:=h5
     replace h6:=aC h6
     exact aX (DD C b h1 h2 ga (notStar h6.1 _ _) (eU h6.2 _ _)) (fun _=>rfl) (fun _ _ _ z=>nomatch z)
 |.ty t a,Γ,N,sc,X,C,p,h=>by
  cases p<;>first|(exact absurd h zzf)|skip
  rename_i fn args iQ pos;cases fn<;>first|(exact absurd h zzf)|skip
  rename_i g np
  match args,iQ,h with
  |[pa,.Name tn tp],[],h=>
   replace h:=aC h
   try simp only [Bool.and_eq_true,beq_iff_eq] at h
   obtain⟨⟨⟨⟨⟨⟨rfl,h1⟩,h2⟩,rfl⟩,h3⟩,h4⟩,h5⟩:=h
   exact aX (Be C h1 h2 h3 h4 (bb a C pa h5).ge (notStar h5)) (fun _=>rfl) (fun _ _ _ z=>nomatch z)
  |[],_,h=>exact absurd h zzf
  |[_],_,h=>exact absurd h zzf
  |_::pb::_::_,_,h=>cases pb<;>exact absurd h zzf
  |[pa,pb],_::_,h=>cases pb<;>exact absurd h zzf
  | [pa, pb], [], h => cases pb<;>first|(exact absurd h zzf)|skip
                       rename_i tn tp;replace h:=aC h
                       try simp only [Bool.and_eq_true,beq_iff_eq] at h
                       obtain⟨⟨⟨⟨⟨⟨rfl,h1⟩,h2⟩,rfl⟩,h3⟩,h4⟩,h5⟩:=h
                       exact aX (Be C h1 h2 h3 h4 (bb a C pa h5).ge (notStar h5)) (fun _=>rfl) (fun _ _ _ z=>nomatch z)
 |.bin o a b,Γ,N,sc,X,C,p,h=>by
  cases p<;>first|(exact absurd h zzf)|skip
  replace h:=aC h
  try simp only [Bool.and_eq_true,decide_eq_true_eq] at h
  obtain⟨⟨rfl,h1⟩,h2⟩:=h
  exact aX (CD C (bb a C _ h1).ge (bb b C _ h2).ge) (fun _=>rfl) (fun _ _ _ z=>nomatch z)
 |.cmp o a b,Γ,N,sc,X,C,p,h=>by
  cases p<;>first|(exact absurd h zzf)|skip
  rename_i pa ops cs pos
  match ops,cs,h with
  |[op],[pb],h=>
   replace h:=aC h
   try simp only [Bool.and_eq_true,decide_eq_true_eq] at h
   obtain⟨⟨rfl,h1⟩,h2⟩:=h
   exact⟨BP C (bb a C _ h1).ge (bb b C _ h2).ge (nR h2 _),fun _=>BU C (bb a C _ h1).ge (bb b C _ h2).ge (nR h2 _),(fun _ _ _ _ z=>nomatch z)⟩
  |[],_,h=>exact absurd h zzf
  |_::_::_,_,h=>exact absurd h zzf
  |[_],[],h=>exact absurd h zzf
  |[_],_::_::_,h=>exact absurd h zzf
 |.ch o1 o2 a b c,Γ,N,sc,X,C,p,h=>by
  cases p<;>first|(exact absurd h zzf)|skip
  rename_i pa ops cs pos
  match ops,cs,h with
  |[op1,op2],[pb,pc],h=>
   replace h:=aC h
   try simp only [Bool.and_eq_true,decide_eq_true_eq] at h
   obtain⟨⟨⟨⟨rfl,rfl⟩,h1⟩,h2⟩,h3⟩:=h
   have hm:lastMarks [oo o1,oo o2] [pb,pc]=false:=nR h3 _
   exact⟨Fm C (bb a C _ h1).ge (bb b C _ h2).ge (bb c C _ h3).ge hm,fun _=>Fx C (bb a C _ h1).ge (bb b C _ h2).ge (bb c C _ h3).ge hm,(fun _ _ _ _ z=>nomatch z)⟩
  |[],_,h=>exact absurd h zzf
  |[_],_,h=>exact absurd h zzf
  |_::_::_::_,_,h=>exact absurd h zzf
  |[_,_],[],h=>exact absurd h zzf
  |[_,_],[_],h=>exact absurd h zzf
  |[_,_],_::_::_::_,h=>exact absurd h zzf
 |.not a,Γ,N,sc,X,C,p,h=>by
  cases p<;>first|(exact absurd h zzf)|skip
  rename_i op pa pos;cases op<;>first|(exact absurd h zzf)|skip
  have h:aS Γ N sc a pa=true:=h
  have s:=bb a C pa h
  exact⟨DW s.ge,fun z=>Ea (s.gt (by simpa only [dQ] using z)),(fun _ _ _ _ z=>nomatch z)⟩
 |.neg a,Γ,N,sc,X,C,p,h=>by
  cases p<;>first|(exact absurd h zzf)|skip
  rename_i op pa pos;cases op<;>first|(exact absurd h zzf)|skip
  have h:aS Γ N sc a pa=true:=h
  exact aX (C2 (bb a C pa h).ge) (fun _=>rfl) (fun _ _ _ z=>nomatch z)
 |.and a b,Γ,N,sc,X,C,p,h=>by
  cases p<;>first|(exact absurd h zzf)|skip
  rename_i op vs pos;cases op with
  |Or=>exact absurd h zzf
  |And=>
   match vs,h with
   |[],h=>exact absurd h zzf
   |[_],h=>exact absurd h zzf
   |[pa,pb],h=>
    replace h:=aC h
    try simp only [Bool.and_eq_true] at h
    obtain⟨⟨he,h1⟩,h2⟩:=h
    have sa:=bb a C pa h1
    have sb:=bb b C pb h2
    have gw:dQ (.and a b)=true→GW X W F (.and a b) (.BoolOp .And [pa,pb] pos):=fun z=>by
     simp only [dQ,Bool.and_eq_true] at z;exact xC (sa.gt z.1) (pw_and1 (sb.gt z.2))
    exact⟨wW he sa.ge (wF sb.ge),fun z=>(gw z).pt,fun z _ _ _ _=>gw z⟩
   |pa::pb::pc::r,h=>
    replace h:=aC h
    try simp only [Bool.and_eq_true] at h
    obtain⟨⟨he,h1⟩,h2⟩:=h
    have sa:=bb a C pa h1
    have sb:=bb b C _ h2
    have gw:dQ (.and a b)=true→GW X W F (.and a b) (.BoolOp .And (pa::pb::pc::r) pos):=fun z=>by
     simp only [dQ,Bool.and_eq_true] at z;exact xC (sa.gt z.1) (sb.gw z.2 _ _ _ rfl)
    exact⟨wW he sa.ge sb.ge,fun z=>(gw z).pt,fun z _ _ _ _=>gw z⟩
 |.or a b,Γ,N,sc,X,C,p,h=>by
  cases p<;>first|(exact absurd h zzf)|skip
  rename_i op vs pos;cases op with
  |And=>exact absurd h zzf
  |Or=>
   match vs,h with
   |[],h=>exact absurd h zzf
   |[_],h=>exact absurd h zzf
   |[pa,pb],h=>
    replace h:=aC h
    try simp only [Bool.and_eq_true] at h
    obtain⟨⟨he,h1⟩,h2⟩:=h
    have sa:=bb a C pa h1
    have sb:=bb b C pb h2
    have gw:dQ (.or a b)=true→GW X W F (.or a b) (.BoolOp .Or [pa,pb] pos):=fun z=>by
     simp only [dQ,Bool.and_eq_true] at z;exact Bs (sa.gt z.1) (pw_or1 (sb.gt z.2))
    exact⟨Bm he sa.ge (wF sb.ge),fun z=>(gw z).pt,fun z _ _ _ _=>gw z⟩
   |pa::pb::pc::r,h=>
    replace h:=aC h
    try simp only [Bool.and_eq_true] at h
    obtain⟨⟨he,h1⟩,h2⟩:=h
    have sa:=bb a C pa h1
    have sb:=bb b C _ h2
    have gw:dQ (.or a b)=true→GW X W F (.or a b) (.BoolOp .Or (pa::pb::pc::r) pos):=fun z=>by
     simp only [dQ,Bool.and_eq_true] at z;exact Bs (sa.gt z.1) (sb.gw z.2 _ _ _ rfl)
    exact⟨Bm he sa.ge sb.ge,fun z=>(gw z).pt,fun z _ _ _ _=>gw z⟩
 |.ite c a b,Γ,N,sc,X,C,p,h=>by
  cases p<;>first|(exact absurd h zzf)|skip
  replace h:=aC h
  try simp only [Bool.and_eq_true] at h
  obtain⟨⟨⟨⟨⟨h0,h1⟩,h2⟩,h3⟩,h4⟩,h5⟩:=h
  exact⟨Co h1 h2 ((bb c C _ h3).gt h0) (bb a C _ h4).ge (bb b C _ h5).ge,(fun z=>nomatch z),(fun _ _ _ _ z=>nomatch z)⟩
 |.tup as,Γ,N,sc,X,C,p,h=>by
  cases p<;>first|(exact absurd h zzf)|skip
  replace h:=aC h
  try simp only [Bool.and_eq_true,decide_eq_true_eq] at h
  exact aX (C3 h.1.1 h.1.2 (iZ as C _ h.2)) (fun _=>rfl) (fun _ _ _ z=>nomatch z)
 |.lst as,Γ,N,sc,X,C,p,h=>by
  cases p<;>first|(exact absurd h zzf)|skip
  replace h:=aC h
  try simp only [Bool.and_eq_true,decide_eq_true_eq] at h
  exact aX ((wa h.1.1 h.1.2 (iZ as C _ h.2)).ge lst_is) (fun _=>rfl) (fun _ _ _ z=>nomatch z)
 |.sub a b,Γ,N,sc,X,C,p,h=>by
  cases p<;>first|(exact absurd h zzf)|skip
  replace h:=aC h
  try simp only [Bool.and_eq_true] at h
  exact aX (CS C (bb a C _ h.1).ge (bb b C _ h.2).ge (xW h.2)) (fun _=>rfl) (fun _ _ _ z=>nomatch z)
 |.lrev a,Γ,N,sc,X,C,p,h=>by
  cases p<;>first|(exact absurd h zzf)|skip
  rename_i fn args iQ pos;cases fn<;>first|(exact absurd h zzf)|skip
  rename_i g np
  match args,iQ,h with
  |[],_,h=>exact absurd h zzf
  |pb::_::_,_,h=>
   cases pb<;>first|(exact absurd h zzf)|skip
   rename_i fn2 a2 k2 _;cases fn2<;>first|(exact absurd h zzf)|skip
   rcases a2 with _|⟨_,_|_⟩<;>cases k2<;>exact absurd h zzf
  |[pb],iQ,h=>
   cases pb<;>first|(exact absurd h zzf)|skip
   rename_i fn2 a2 k2 uR;cases fn2<;>first|(exact absurd h zzf)|skip
   rename_i g2 p2
   match a2,k2,iQ,h with
   |[],_,_,h=>exact absurd h zzf
   |_::_::_,_,_,h=>exact absurd h zzf
   |[_],_::_,_,h=>exact absurd h zzf
   |[_],[],_::_,h=>exact absurd h zzf
   |[pa],[],[],h=>
    replace h:=aC h
    simp only [Bool.and_eq_true] at h;obtain⟨⟨⟨⟨⟨⟨e1,h1⟩,h2⟩,e2⟩,h3⟩,h4⟩,h5⟩:=h
    cases beq_iff_eq.mp e1;cases beq_iff_eq.mp e2;exact aX (AX C h1 h2 h3 h4 (bb a C pa h5).ge (notStar h5 _ _)) (fun _=>rfl) (fun _ _ _ z=>nomatch z)
 |.slice a lo hi,Γ,N,sc,X,C,p,h=>by
  cases p<;>first|(exact absurd h zzf)|skip
  rename_i pa ps pos;cases ps<;>first|(exact absurd h zzf)|skip
  rename_i pl ph pst p2;cases pst with
  |some _=>exact absurd h zzf
  |none=>
   replace h:=aC h
   try simp only [Bool.and_eq_true] at h
   exact aX (xJ C (bb a C _ h.1.1).ge (GR lo C pl h.1.2) (GR hi C ph h.2)) (fun _=>rfl) (fun _ _ _ z=>nomatch z)
 |.comp kk aU tg it elt,Γ,N,sc,X,C,p,h=>by
  cases p<;>first|(exact absurd h zzf)|skip
  rename_i dm gens scope pos
  match gens,h with
  |[⟨bX,eG,[],asy⟩],h=>
   replace h:=aC h
   simp only [Bool.and_eq_true] at h;obtain⟨⟨⟨⟨⟨⟨h1,h2⟩,h3⟩,h4⟩,h5⟩,h6⟩,gA⟩:=h
   have gA:=of_decide_eq_true gA
   subst gA;refine aX ((tj C (hJ h1) h2 h3 (xh it C bX eG h4) (ij h4 _) h5 fun Y CY=>(bb elt CY dm h6).ge).ge fun env q e=>?_) (fun _=>rfl) (fun _ _ _ z=>nomatch z)
   rw [aA] at e;obtain⟨ps,_,e⟩:=Res.bind_ok e
   split at e
   ·obtain⟨ys,_,e⟩:=Res.bind_ok e
    cases e;exact⟨_,rfl⟩
   ·cases e
  |[],h=>exact absurd h zzf
  |⟨_,_,[],_⟩::_::_,h=>exact absurd h zzf
  |⟨_,_,[_],_⟩::_::_,h=>exact absurd h zzf
  |⟨_,_,_::_::_,_⟩::_::_,h=>exact absurd h zzf
  |[⟨_,_,_::_,_⟩],h=>exact absurd h zzf
 |.compIf kk aU tg it c elt,Γ,N,sc,X,C,p,h=>by
  cases p<;>first|(exact absurd h zzf)|skip
  rename_i dm gens scope pos
  match gens,h with
  |[⟨bX,eG,[pc],asy⟩],h=>
   replace h:=aC h
   simp only [Bool.and_eq_true] at h;obtain⟨⟨⟨⟨⟨⟨⟨⟨h0,h1⟩,h2⟩,h3⟩,h4⟩,h5⟩,h6⟩,h7⟩,gA⟩:=h
   have gA:=of_decide_eq_true gA
   subst gA;refine aX ((mj C (hJ h1) h2 h3 (xh it C bX eG h4) (ij h4 _) h5 (fun Y CY=>(bb c CY pc h6).gt h0) fun Y CY=>(bb elt CY dm h7).ge).ge fun env q e=>?_) (fun _=>rfl) (fun _ _ _ z=>nomatch z)
   rw [aA] at e;obtain⟨ps,_,e⟩:=Res.bind_ok e
   split at e
   ·obtain⟨ys,_,e⟩:=Res.bind_ok e
    cases e;exact⟨_,rfl⟩
   ·cases e
  |[],h=>exact absurd h zzf
  |⟨_,_,[],_⟩::_::_,h=>exact absurd h zzf
  |⟨_,_,[_],_⟩::_::_,h=>exact absurd h zzf
  |⟨_,_,_::_::_,_⟩::_::_,h=>exact absurd h zzf
  |[⟨_,_,[],_⟩],h=>exact absurd h zzf
  |[⟨_,_,_::_::_,_⟩],h=>exact absurd h zzf
theorem iZ:∀(es:Es) {Γ:Pg} {N:List Str} {sc:Scope} {X:Cx} (C:dw Γ F W N sc k X) (ps:List Expr),g8 Γ N sc es ps=true→GA X W F es ps
 |.nil,Γ,N,sc,X,C,ps,h=>by
  cases ps with
  |nil=>exact C9
  |cons _ _=>exact absurd h zzf
 |.cons e es,Γ,N,sc,X,C,ps,h=>by
  cases ps with
  |nil=>exact absurd h zzf
  |cons p ps=>
   replace h:=aC h
   exact zw (bb e C p h.1).ge (iZ es C ps h.2) (notStar h.1 _ _)
theorem A7:∀(es:Es) {Γ:Pg} {N:List Str} {sc:Scope} {X:Cx} (C:dw Γ F W N sc k X) (hl:Γ.hl=true) (g:Str) (idx aU:List Nat) (ps:List Expr),fv es=true→su Γ N sc g idx aU es ps=true→PA X ps (EZ X W F N sc g idx aU es)
 |.nil,Γ,N,sc,X,C,hl,g,idx,aU,ps,he,h=>by
  match ps,h with
  |[],h=>exact absurd h zzf
  |[p],h=>
   cases p<;>first|(exact absurd h zzf)|skip
   replace h:=aC h
   have h1:=aC h.1
   exact AM C hl ⟨h1.1,of_decide_eq_true h1.2,fun y hy=>of_decide_eq_true (List.all_eq_true.mp h.2 y hy)⟩
  |p::_::_,h=>cases p<;>exact absurd h zzf
 |.cons e es,Γ,N,sc,X,C,hl,g,idx,aU,ps,he,h=>by
  cases ps with
  |nil=>exact absurd h zzf
  |cons p ps=>
   replace h:=aC h
   have D7:=aC (show(eV e&&fv es)=true from he)
   exact xb he (bb e C p h.1).ge (A7 es C hl g idx aU ps D7.2 h.2) (notStar h.1 _ _)
theorem GR:∀(o:Oe) {Γ:Pg} {N:List Str} {sc:Scope} {X:Cx} (C:dw Γ F W N sc k X) (p:Option Expr),C6 Γ N sc o p=true→PO X p (wK X W F o)
 |.no,Γ,N,sc,X,C,p,h=>by
  cases p with
  |none=>exact yr
  |some _=>exact absurd h zzf
 |.some e,Γ,N,sc,X,C,p,h=>by
  cases p with
  |none=>exact absurd h zzf
  |some p=>
   exact AI (bb e C p h).ge
theorem xh:∀(it:I) {Γ:Pg} {N:List Str} {sc:Scope} {X:Cx} (C:dw Γ F W N sc k X) (tg p:Expr),uT Γ N sc tg it p=true→GI X W F tg it p
 |.seq e,Γ,N,sc,X,C,tg,p,h=>by
  exact Dm C (bb e C p h).ge
 |.rng e,Γ,N,sc,X,C,tg,p,h=>by
  cases p<;>first|(exact absurd h zzf)|skip
  rename_i fn args iQ pos;cases fn<;>first|(exact absurd h zzf)|skip
  match args,iQ,h with
  |[q],[],h=>
   replace h:=aC h
   try simp only [Bool.and_eq_true] at h
   obtain⟨⟨⟨e1,h1⟩,h2⟩,h3⟩:=h
   cases beq_iff_eq.mp e1;exact B9 C h1 h2 (notStar h3) (bb e C q h3).ge
  |[],_,h=>exact absurd h zzf
  |_::_::_,_,h=>exact absurd h zzf
  |[_],_::_,h=>exact absurd h zzf
 |.rng2 a b,Γ,N,sc,X,C,tg,p,h=>by
  cases p<;>first|(exact absurd h zzf)|skip
  rename_i fn args iQ pos;cases fn<;>first|(exact absurd h zzf)|skip
  match args,iQ,h with
  |[q,r],[],h=>
   replace h:=aC h
   try simp only [Bool.and_eq_true] at h
   obtain⟨⟨⟨⟨e1,h1⟩,h2⟩,h3⟩,h4⟩:=h
   cases beq_iff_eq.mp e1;exact zQ C h1 h2 (notStar h3) (notStar h4) (bb a C q h3).ge (bb b C r h4).ge
  |[],_,h=>exact absurd h zzf
  |[_],_,h=>exact absurd h zzf
  |_::_::_::_,_,h=>exact absurd h zzf
  |[_,_],_::_,h=>exact absurd h zzf
 |.enum e,Γ,N,sc,X,C,tg,p,h=>by
  cases p<;>first|(exact absurd h zzf)|skip
  rename_i fn args iQ pos;cases fn<;>first|(exact absurd h zzf)|skip
  match args,iQ,h with
  |[q],[],h=>
   replace h:=aC h
   try simp only [Bool.and_eq_true] at h
   obtain⟨⟨⟨⟨h0,e1⟩,h1⟩,h2⟩,h3⟩:=h
   cases beq_iff_eq.mp e1;cases tg<;>first|(exact absurd h0 zzf)|skip
   exact Ab C h1 h2 (notStar h3) (bb e C q h3).ge
  |[],_,h=>exact absurd h zzf
  |_::_::_,_,h=>exact absurd h zzf
  |[_],_::_,h=>exact absurd h zzf
 |.zip a b,Γ,N,sc,X,C,tg,p,h=>by
  cases p<;>first|(exact absurd h zzf)|skip
  rename_i fn args iQ pos;cases fn<;>first|(exact absurd h zzf)|skip
  match args,iQ,h with
  |[q,r],[],h=>
   replace h:=aC h
   try simp only [Bool.and_eq_true] at h
   obtain⟨⟨⟨⟨⟨h0,e1⟩,h1⟩,h2⟩,h3⟩,h4⟩:=h
   cases beq_iff_eq.mp e1;cases tg<;>first|(exact absurd h0 zzf)|skip
   exact DY C h1 h2 (notStar h3) (notStar h4) (bb a C q h3).ge (bb b C r h4).ge
  |[],_,h=>exact absurd h zzf
  |[_],_,h=>exact absurd h zzf
  |_::_::_::_,_,h=>exact absurd h zzf
  |[_,_],_::_,h=>exact absurd h zzf
end
end
end Ci
namespace L2
open PySem PySem.Spec PyProof.Rows
section
variable{X:Cx}{scope:Scope}{xs ys:List Str}{is:List Nat}
theorem rq{i₀:Nat}{x₀:Str}{pos' ff:Pos}{elt tg iter:Expr}{pos:Pos}{wi:TI}{g:TG}{te:TE}(hN₀:X.N.Nodup)(hi₀:X.N[i₀]?=some x₀)(hx₀:Loc X.env.scope x₀)(hc:X.calm=true)(S:dX X scope xs ys is)(hi:PI X tg iter wi)
 (hg:∀fp s1 H1 C,PG (bQ X (xs++ys) scope (bz X.env ys) fp s1 H1 C) tg g) (he:∀fp s1 H1 C,PE (bQ X (xs++ys) scope (bz X.env ys) fp s1 H1 C) elt te)
 (xj:swapsWith (.ListComp elt [⟨tg,iter,[],0⟩] scope pos) (some (.Name x₀ pos')) ff.line X.env=pure true:=by rfl)
 (hs:∀x,foldedSetIterable iter X.env x=pure x:=by intro _;rfl) (hf₀:X.fn x₀=true∨X.env.scope.names.lookup x₀=some .local:=by first|exact .inl rfl|exact .inr rfl|assumption):
 PS X (.Assign [.Name x₀ pos'] (.ListComp elt [⟨tg,iter,[],0⟩] scope pos) ff) (zt (xr wi xs.length g te is) (gb i₀)):=by
 intro pins s σ H D₀ I h;rw [exec_Assign_Name_used _ _ _ _ xj];refine wpAny_bind (wpAny_standAt (wpAny_bind ?_));show wpAny _ X.A (do let _←comprehension (.ListComp elt [⟨tg,iter,[],0⟩] scope pos) scope X.env _ (newList []) false (eval iter X.env) (some (assign (.Name x₀ pos') X.env))) _ _ s;refine wpAny_bind (wpAny_mono (fX (QQ:=fun _ s'=>∃σ2 H2,Inv X pins σ2 H2 s'∧D₀.nx σ2 H2) (Q:=fun v H4=>gb i₀ v σ H4 D₀.nx) hc S hi hg (fun _ _ _ _=>sy) he hs I h fun D C s4 H4 m I5 hn ⟨g0,g1,_,g3,g4,g5⟩ q=>?_) (fun _ s' hq=>wpAny_pure (wpAny_pure hq)) fun _ _ e=>e)
 refine wpAny_assign_Name (iC I5 hN₀ hi₀ hx₀ (show RelV (.ref D) (.ref D) from rfl) (fun s6 I6 ⟨a6,sb6,ha6⟩=>?_) hf₀);have De:C≠a6:=by
  rcases ha6 with z|z
  ·rw [z];exact g1
  ·exact fun z2=>g4 _ _ z z2.symm
 exact⟨m,hn.sameBut sb6 De,fun h' qS=>⟨_,_,I6.turned (t':=s6.toks) (it:=C) (fun b o hb e=>qS.extBut b o hb e) g0 g1 g3 g4 g5,q⟩⟩
end
end L2
namespace Ci
open PySem L2
section
variable{W:Wd}{G0 H0 G H:Hp}{env:Sl}{σ:St}
theorem Own.thing{p:PV}{v:V}(h:Own W H0 G H p v):∃a o,v=.ref a∧H a=some o∧G a=none∧H0 a=none∧((∀G',ay G G'→G' a=some o→Rep W G' p (.ref a))∨∃au,o=.dT au∧∀ob G',ay G G'→G' a=some (.frz ob (.dT au))→Rep W G' p (.ref a)):=by
 cases p with
 |lst xs=>
  obtain⟨a,vs,rfl,h1,h2,h3,l⟩:=h
  exact⟨a,_,rfl,h1,h2,h3,.inl fun G' s e=>.l (.inl (.inl e)) (ae.same s xs l)⟩
 |dct ks ps=>
  obtain⟨a,us,rfl,n,h1,h2,h3,l⟩:=h
  exact⟨a,_,rfl,h1,h2,h3,.inr ⟨_,rfl,fun ob G' s e=>by simp only [Rep];exact⟨a,ob,us,rfl,n,e,ae.same s ps l⟩⟩⟩
 |non=>exact h.elim
 |bl _=>exact h.elim
 |int _=>exact h.elim
 |str _=>exact h.elim
 |tup _=>exact h.elim
 |exc _=>exact h.elim
theorem Own.notbl{p:PV}{a:Addr}(h:Own W H0 G H p (.ref a))(ps:Array Value):H a≠some (.tbl ps):=fun z=>by
 cases p with
 |lst xs=>obtain⟨b,vs,e,h1,_⟩:=h;cases e;rw [z] at h1;cases h1
 |dct ks qs=>
  obtain⟨b,us,e,_,h1,_⟩:=h
  cases e;rw [z] at h1;cases h1
 |non=>exact h.elim
 |bl _=>exact h.elim
 |int _=>exact h.elim
 |str _=>exact h.elim
 |tup _=>exact h.elim
 |exc _=>exact h.elim
theorem mP{a:Addr}{ob:HO}{H':Hp}(t:cb W G H)(hG:G a=none)(n:∀ps,H a≠some (.tbl ps))(hH:∀b,b≠a→H' b=H b):cb W (upd G a ob) H':=fun P q m=>by
 obtain⟨n1,ps,e,tr,al⟩:=t P q m
 have hP:P≠a:=fun z=>by subst z;exact n ps e
 refine⟨by rw [aa hP];exact n1,ps,by rw [hH P hP];exact e,tr,fun pos cv y=>?_⟩
 obtain⟨c',oc,cF,t',e1,e2,e3,e4⟩:=al pos cv y
 exact⟨c',oc,cF,t',e1,bh hG _ _ e2,e3,e4⟩
theorem Own.stay{p:PV}{v:V}{a:Addr}{G' H':Hp}(h:Own W H0 G H p v)(hv:v≠.ref a)(sG:ay G G')(hG:∀b,b≠a→G' b=G b)(hH:∀b,b≠a→H' b=H b):Own W H0 G' H' p v:=by
 cases p with
 |lst xs=>
  obtain⟨b,vs,rfl,h1,h2,h3,l⟩:=h
  have hb:b≠a:=fun z=>hv (by rw [z])
  exact⟨b,vs,rfl,by rw [hH b hb];exact h1,by rw [hG b hb];exact h2,h3,ae.same sG xs l⟩
 |dct ks ps=>
  obtain⟨b,us,rfl,n,h1,h2,h3,l⟩:=h
  have hb:b≠a:=fun z=>hv (by rw [z])
  exact⟨b,us,rfl,n,by rw [hH b hb];exact h1,by rw [hG b hb];exact h2,h3,ae.same sG ps l⟩
 |non=>exact h.elim
 |bl _=>exact h.elim
 |int _=>exact h.elim
 |str _=>exact h.elim
 |tup _=>exact h.elim
 |exc _=>exact h.elim
theorem getElem?_modify{α:Type}(l:List α)(i j:Nat)(f:α→α):(l.modify i f)[j]?=if i=j then(l[j]?).map f else l[j]?:=by
 rw [List.getElem?_modify];split<;>simp_all
theorem oR(r:SR W H0 env σ G H)(g:aE W G0 H0 G H){i:Nat}{p:PV}{a:Addr}{ob Ep:HO}{H':Hp}(hp:env[i]?=some (.own p))(ho:σ[i]?=some (some (.ref a)))(E3:Own W H0 G H p (.ref a))(hH:H a=some ob)(hG:G a=none)(yn:H0 a=none)
 (xf:∀G',ay G G'→G' a=some Ep→Rep W G' p (.ref a)) (h1:H' a=some Ep) (h2:∀b,b≠a→H' b=H b):SR W H0 (env.modify i nT) σ (upd G a Ep) H'∧aE W G0 H0 (upd G a Ep) H':=by
 have sG:ay G (upd G a Ep):=bh hG
 have sub:ay (upd G a Ep) H':=fun b u e=>by
  by_cases hb:b=a
  ·subst hb;rw [ag] at e;cases e;exact h1
  ·rw [aa hb] at e;rw [h2 b hb];exact r.sub _ _ e
 have base:∀{B:Hp},B a=none→gj B H→gj B H':=fun hB k b u e=>by
  have hb:b≠a:=fun z=>by rw [z,hB] at e;cases e
  rw [h2 b hb];exact k b u e
 refine⟨⟨by rw [List.length_modify];exact r.len,sub,base yn r.base,fun j s e=>?_,fun j l q q' c e1 e2 e3 e4=>?_,mP r.tab hG E3.notbl h2,mP r.tab0 hG (fun ps z=>by rw [yn] at z;cases z) fun _ _=>rfl⟩,⟨g.g.trans sG,base yn g.h,sub,fun b h3 h5 h4=>?_,fun t=>mP (g.tab t) hG E3.notbl h2⟩⟩
 ·rw [getElem?_modify] at e;split at e
  ·rename_i z;subst z;rw [hp] at e;cases e;exact⟨_,ho,_,rfl,xf _ sG ag⟩
  ·rename_i z;obtain⟨o2,k1,k2⟩:=r.slot j s e
   refine⟨o2,k1,?_⟩;cases s with
   |no=>exact trivial
   |val q=>
    obtain⟨v2,rfl,rv⟩:=k2
    exact⟨v2,rfl,Rep.same sG q rv⟩
   |fn _ _ _=>
    obtain⟨v2,rfl,rv⟩:=k2
    exact⟨v2,rfl,rv.same sG⟩
   |own q=>
    obtain⟨v2,rfl,ov⟩:=k2
    refine⟨v2,rfl,ov.stay (a:=a) (fun zz=>?_) sG (fun b hb=>aa hb) h2⟩;subst zz;exact z (r.apart i j p q a hp e ho k1)
 ·rw [getElem?_modify] at e1 e2;have ne:∀{j:Nat} {q:PV},(if i=j then(env[j]?).map nT else env[j]?)=some (.own q)→i≠j∧env[j]?=some (.own q):=fun{j q} e=>by
   split at e
   ·rename_i z;subst z;rw [hp] at e;cases e
   ·rename_i z;exact⟨z,e⟩
  exact r.apart j l q q' c (ne e1).2 (ne e2).2 e3 e4
 ·have hb:b≠a:=fun z=>h3 (by rw [z];exact yn)
  rw [aa hb];exact g.own b h3 h5 h4
theorem Dc(r:SR W H0 env σ G H)(g:aE W G0 H0 G H)(i:Nat):(∃G',SR W H0 (env.modify i nT) σ G' H∧aE W G0 H0 G' H)∨∃a au,H a=some (.dT au)∧∀o,∃G',SR W H0 (env.modify i nT) σ G' (upd H a (.frz o (.dT au)))∧aE W G0 H0 G' (upd H a (.frz o (.dT au))):=by
 have same:(∀p,env[i]?≠some (.own p))→env.modify i nT=env:=fun h=>by
  refine List.ext_getElem? fun j=>?_
  rw [getElem?_modify];split
  ·rename_i e;subst e;cases q:env[i]? with
   |none=>rfl
   |some s=>
    cases s with
    |own p=>exact absurd q (h p)
    |no=>rfl
    |val p=>rfl
    |fn _ _ _=>rfl
  ·rfl
 by_cases hx:∃p,env[i]?=some (.own p)
 ·obtain⟨p,hp⟩:=hx
  obtain⟨o,ho,v,rfl,ow⟩:=r.slot i _ hp
  have E3:=ow
  obtain⟨a,ob,rfl,hH,hG,yn,xf|⟨au,rfl,xf⟩⟩:=ow.thing
  ·obtain⟨k1,k2⟩:=oR r g hp ho E3 hH hG yn xf hH fun _ _=>rfl
   exact .inl ⟨_,k1,k2⟩
  ·refine .inr ⟨a,au,hH,fun o=>?_⟩
   obtain⟨k1,k2⟩:=oR r g hp ho E3 hH hG yn (xf o) ag fun b hb=>aa hb
   exact⟨_,k1,k2⟩
 ·exact .inl ⟨G,by rw [same fun p z=>hx ⟨p,z⟩];exact r,g⟩
theorem iK(r:SR W H0 env σ G H)(g:aE W G0 H0 G H){i:Nat}{p p':PV}{a:Addr}{ob:HO}(hp:env[i]?=some (.own p))(hs:σ[i]?=some (some (.ref a)))(hG:G a=none)(yn:H0 a=none)(hn:Own W H0 G (upd H a ob) p' (.ref a)):
 SR W H0 (env.set i (.own p')) σ G (upd H a ob)∧aE W G0 H0 G (upd H a ob):=by
 have bW:i<env.length:=(List.getElem?_eq_some_iff.mp hp).1
 have N6:∀ps,H a≠some (.tbl ps):=by
  obtain⟨o2,h1,v2,rfl,ow⟩:=r.slot i _ hp
  rw [hs] at h1;cases h1;exact ow.notbl
 have tab:∀{G1:Hp},cb W G1 H→cb W G1 (upd H a ob):=fun t=>t.same (ay.refl _) (fun _ _ _ h=>h) (mJ N6)
 refine⟨⟨by rw [List.length_set];exact r.len,fun b u e=>?_,fun b u e=>?_,fun j s e=>?_,fun j l q q' c e1 e2 e3 e4=>?_,tab r.tab,r.tab0⟩,⟨g.g,fun b u e=>?_,fun b u e=>?_,g.own,fun t=>tab (g.tab t)⟩⟩
 ·rw [aa (fun z=>by subst z;rw [hG] at e;cases e)];exact r.sub _ _ e
 ·rw [aa (fun z=>by subst z;rw [yn] at e;cases e)];exact r.base _ _ e
 ·by_cases hj:i=j
  ·subst hj;rw [List.getElem?_set_self bW] at e;cases e;exact⟨_,hs,_,rfl,hn⟩
  ·rw [List.getElem?_set_ne hj] at e;obtain⟨o2,h1,h2⟩:=r.slot j s e
   refine⟨o2,h1,?_⟩;cases s with
   |no=>exact trivial
   |val q=>exact h2
   |fn _ _ _=>exact h2
   |own q=>
    obtain⟨v2,rfl,ov⟩:=h2
    refine⟨v2,rfl,ov.stay (a:=a) (fun zz=>?_) (ay.refl _) (fun b hb=>rfl) fun b hb=>aa hb⟩
    subst zz;exact hj (r.apart i j p q a hp e hs h1)
 ·have tr:∀{j:Nat} {q:PV},(env.set i (.own p'))[j]?=some (.own q)→∃q2,env[j]?=some (.own q2):=fun{j q} e=>by
   by_cases hj:i=j
   ·subst hj;exact⟨p,hp⟩
   ·rw [List.getElem?_set_ne hj] at e;exact⟨q,e⟩
  obtain⟨q2,f1⟩:=tr e1
  obtain⟨q3,f2⟩:=tr e2
  exact r.apart j l q2 q3 c f1 f2 e3 e4
 ·rw [aa (fun z=>by subst z;rw [yn] at e;cases e)];exact g.h _ _ e
 ·rw [aa (fun z=>by subst z;rw [hG] at e;cases e)];exact g.sub _ _ e
theorem rF(r:SR W H0 env σ G H)(g:aE W G0 H0 G H){i:Nat}{p:PV}{a:Addr}{ob:HO}(hi:i<env.length)(ha:H a=none)(hn:Own W H0 G (upd H a ob) p (.ref a)):
 SR W H0 (env.set i (.own p)) (σ.set i (some (.ref a))) G (upd H a ob)∧aE W G0 H0 G (upd H a ob):=by
 have gm:aE W G H G (upd H a ob):=.mine r.sub ha
 have r1:=r.grow gm
 have old:∀{j:Nat} {q:PV},env[j]?=some (.own q)→σ[j]?=some (some (.ref a))→False:=fun{j q} e1 e2=>by
  obtain⟨o2,h1,v2,rfl,ov⟩:=r.slot j _ e1
  rw [e2] at h1;cases h1;obtain⟨a',o',e3,hH,_⟩:=ov.thing
  cases e3;rw [ha] at hH;cases hH
 refine⟨⟨by rw [List.length_set,List.length_set];exact r.len,r1.sub,r1.base,fun j s e=>?_,fun j l q q' c e1 e2 e3 e4=>?_,r1.tab,r1.tab0⟩,g.trans gm⟩
 ·by_cases hj:i=j
  ·subst hj;rw [List.getElem?_set_self hi] at e;cases e;exact⟨_,List.getElem?_set_self (by rw [←r.len];exact hi),_,rfl,hn⟩
  ·rw [List.getElem?_set_ne hj] at e;obtain⟨o2,h1,h2⟩:=r1.slot j s e
   exact⟨o2,by rw [List.getElem?_set_ne hj];exact h1,h2⟩
 ·by_cases hj:i=j
  ·by_cases hl:i=l
   ·exact hj.symm.trans hl
   ·exfalso
    subst hj;rw [List.getElem?_set_self (by rw [←r.len];exact hi)] at e3;rw [List.getElem?_set_ne hl] at e2 e4;cases e3;exact old e2 e4
  ·by_cases hl:i=l
   ·exfalso
    subst hl;rw [List.getElem?_set_self (by rw [←r.len];exact hi)] at e4;rw [List.getElem?_set_ne hj] at e1 e3;cases e4;exact old e1 e3
   ·rw [List.getElem?_set_ne hj] at e1 e3;rw [List.getElem?_set_ne hl] at e2 e4;exact r.apart j l q q' c e1 e2 e3 e4
end
end Ci
namespace Ci
open PySem L2
def gZ:E→Bool
 |.lst _=>true
 |.comp _ _ _ _ _=>true
 |.compIf _ _ _ _ _ _=>true
 |_=>false
def mK:Expr→Bool
 |.ListComp .. =>false
 |.SetComp .. =>false
 |.DictComp .. =>false
 |_=>true
noncomputable def JM(sc:Scope)(x:Str)(xp:Pos):Expr→Bool
 |.ListComp _ _ s p=>sc.names.lookup x==some .local&&xp.line==p.line&&!(s.names.any fun(n,k)=>n==x&&(k==.local||k==.cell))
 |_=>false
def Bp:List Expr→Option Str
 |[.Name x _]=>some x
 |_=>none
def wJ:List Expr→Option Expr
 |[t]=>some t
 |_=>none
def En:Expr→Option (Str×Str×List Expr)
 |.Call (.Attribute (.Name x _) m apos) args [] br=>if apos.endLine==br.line then some (x,m,args) else none
 |_=>none
def y9:Expr→Option Str
 |.Name x _=>some x
 |_=>none
theorem ou{α:Type}{a:α}{p:Prop}(h:(none:Option α)=some a):p:=nomatch h
theorem oe{e:Expr}{x:Str}(h:y9 e=some x):∃p,e=.Name x p:=by
 cases e with
 |Name y p=>cases h;exact⟨_,rfl⟩
 |_=>exact ou h
noncomputable def La:Expr→Option (Str×Arguments×Expr×Scope)
 |.Call (.Name f _) [.Name x _] [⟨some kw,.Lambda params body scope _,_⟩] _=>if f=="min"&&kw=="key" then some (x,params,body,scope) else none
 |_=>none
theorem CC{e:Expr}{c:Str×Arguments×Expr×Scope}(h:La e=some c):∃q1 q2 q3 q4 q5,e=.Call (.Name "min" q1) [.Name c.1 q2] [⟨some "key",.Lambda c.2.1 c.2.2.1 c.2.2.2 q3,q4⟩] q5:=by
 cases e with
 |Call f args iQ p=>
  cases f with
  |Name f fp=>
   cases args with
   |nil=>exact ou h
   |cons a as=>
    cases a with
    |Name x xp=>
     cases as with
     |cons _ _=>exact ou h
     |nil=>
      cases iQ with
      |nil=>exact ou h
      |cons k ks=>
       obtain⟨kn,kv,kp⟩:=k
       cases kn with
       |none=>exact ou h
       |some kw=>
        cases kv with
        |Lambda params body scope lp=>
         cases ks with
         |cons _ _=>exact ou h
         |nil=>
          have h:(if(f=="min"&&kw=="key")=true then some (x,params,body,scope) else none)=some c:=h
          split at h
          ·rename_i hc;rw [Bool.and_eq_true,beq_iff_eq,beq_iff_eq] at hc;obtain⟨rfl,rfl⟩:=hc
           cases h;exact⟨_,_,_,_,_,rfl⟩
          ·cases h
        |_=>exact ou h
    |_=>exact ou h
  |_=>exact ou h
 |_=>exact ou h
def si(x p:Str):Expr→Bool
 |.Subscript (.Subscript (.Name y _) (.Name q _) _) (.Constant (.int 0) _ _) _=>y==x&&q==p
 |_=>false
noncomputable def sR(x:Str)(params:Arguments)(body:Expr)(scope:Scope):Bool:=match mW params with
 |some [p]=>si x p body&&decide (aZ scope=[x])&&HI [p] scope&&okN p&&okN x
 |_=>false
theorem xi{x:Str}{params:Arguments}{body:Expr}{scope:Scope}(h:sR x params body scope=true):∃p,mW params=some [p]∧qi p x params body scope∧aZ scope=[x]∧okN x=true:=by
 unfold sR at h;split at h
 ·rename_i p e;simp only [Bool.and_eq_true,decide_eq_true_eq] at h;obtain⟨⟨⟨⟨h1,h2⟩,h3⟩,h4⟩,h5⟩:=h
  refine⟨p,e,⟨?_,by rw [←h2];exact yf h3,(cM h4).1,(cM h4).2.1,(cM h5).1,(cM h5).2.1⟩,h2,h5⟩;unfold si at h1;split at h1
  ·rw [Bool.and_eq_true,beq_iff_eq,beq_iff_eq] at h1;obtain⟨rfl,rfl⟩:=h1
   exact⟨_,_,_,_,_,_,rfl⟩
  ·cases h1
 ·cases h
def Hx:List Expr→Option (Str×Expr)
 |[.Subscript (.Name x _) pk _]=>some (x,pk)
 |_=>none
def Lk:Option Expr→Option (Str×Str)
 |some (.Call (.Name x _) [.Constant (.str z) _ _] [] _)=>some (x,z)
 |_=>none
theorem iG{ts:List Expr}{x:Str}(h:Bp ts=some x):∃xp,ts=[.Name x xp]:=by
 unfold Bp at h;split at h
 ·cases h;exact⟨_,rfl⟩
 ·cases h
theorem mV{ts:List Expr}{t:Expr}(h:wJ ts=some t):ts=[t]:=by
 unfold wJ at h;split at h
 ·cases h;rfl
 ·cases h
theorem mZ{p:Expr}{x m:Str}{args:List Expr}(h:En p=some (x,m,args)):∃np apos br,p=.Call (.Attribute (.Name x np) m apos) args [] br∧(apos.endLine==br.line)=true:=by
 unfold En at h;split at h
 ·split at h
  ·rename_i hl;cases h;exact⟨_,_,_,rfl,hl⟩
  ·cases h
 ·cases h
theorem vD{ts:List Expr}{x:Str}{pk:Expr}(h:Hx ts=some (x,pk)):∃np sp,ts=[.Subscript (.Name x np) pk sp]:=by
 unfold Hx at h;split at h
 ·cases h;exact⟨_,_,rfl⟩
 ·cases h
theorem D4{o:Option Expr}{x z:Str}(h:Lk o=some (x,z)):∃np j zp cp,o=some (.Call (.Name x np) [.Constant (.str z) j zp] [] cp):=by
 cases o with
 |none=>exact ou h
 |some e=>
  cases e with
  |Call f args iQ p=>
   cases f with
   |Name f fp=>
    cases args with
    |nil=>exact ou h
    |cons a as=>
     cases a with
     |Constant k j kp=>
      cases k with
      |str s=>
       cases as with
       |cons _ _=>exact ou h
       |nil=>
        cases iQ with
        |cons _ _=>exact ou h
        |nil=>cases h;exact⟨_,_,_,_,rfl⟩
      |_=>exact ou h
     |_=>exact ou h
   |_=>exact ou h
  |_=>exact ou h
def DL:List Expr→Option (Str×Pos×Str×Pos)
 |[.Tuple [.Name x px,.Name y py] _ _]=>some (x,px,y,py)
 |_=>none
theorem zC{ts:List Expr}{q:Str×Pos×Str×Pos}(h:DL ts=some q):∃kt pt,ts=[.Tuple [.Name q.1 q.2.1,.Name q.2.2.1 q.2.2.2] kt pt]:=by
 unfold DL at h;split at h
 ·cases h;exact⟨_,_,rfl⟩
 ·cases h
def isStar:Expr→Bool
 |.Starred .. =>true
 |_=>false
def B2(a b:Expr):Bool:=!isStar a&&!isStar b&&!(foldedForSure 8 a&&foldedForSure 8 b)&&!(constantsAlone 8 a&&constantsAlone 8 b)
mutual
noncomputable def dO(Γ:Pg)(N:List Str)(sc:Scope):S→Stmt→Bool
 |.expr e,.Expr p _=>mK p&&aS Γ N sc e p
 |.set i e,.Assign ts p _=>(Bp ts).any fun x=>N[i]?==some x&&di sc x&&eV e&&aS Γ N sc e p
 |.own i e,.Assign ts p _=>(Bp ts).any fun x=>N[i]?==some x&&di sc x&&gZ e&&aS Γ N sc e p
 |.app i e,.Expr v _=>(En v).any fun c=>N[i]?==some c.1&&dh sc c.1&&okN c.1&&c.2.1==("append":Str)&&eV e&&(wJ c.2.2).any fun p=>aS Γ N sc e p
 |.extd i e,.Expr v _=>(En v).any fun c=>N[i]?==some c.1&&dh sc c.1&&okN c.1&&c.2.1==("extend":Str)&&(wJ c.2.2).any fun p=>aS Γ N sc e p
 |.put i kk e,.Assign ts p _=>(Hx ts).any fun c=>N[i]?==some c.1&&dh sc c.1&&okN c.1&&eV e&&aS Γ N sc kk c.2&&aS Γ N sc e p
 |.pop j i,.Assign ts v _=>(Bp ts).any fun y=>(En v).any fun c=>N[i]?==some c.1&&dh sc c.1&&okN c.1&&c.2.1==("pop":Str)&&c.2.2.isEmpty&&N[j]?==some y&&di sc y
 |.ret e,.Return (some p) _=>eV e&&aS Γ N sc e p
 |.ite c a b,.If p pa pb _=>dQ c&&aS Γ N sc c p&&cQ Γ N sc a pa&&cQ Γ N sc b pb
 |.for_ tg it b,.For bX eG pb els _=>els.isEmpty&&fK N sc (fun _=>true) tg bX&&yC it&&uT Γ N sc bX it eG&&cQ Γ N sc b pb
 |.whl c b,.While p pb els _=>els.isEmpty&&dQ c&&aS Γ N sc c p&&cQ Γ N sc b pb
 |.raise c m,.Raise ex fr _=>fr.isNone&&(Lk ex).any fun q=>c==q.1&&m==q.2&&Γ.rs.contains c&&f7 sc c&&okN c
 |.par i j as,.Assign ts (.Tuple [a,b] _ _) _=>(DL ts).any fun q=>N[i]?==some q.1&&N[j]?==some q.2.2.1&&decide (i≠j)&&q.1 !=q.2.2.1&&q.2.2.2.line==q.2.1.line&&sc.names.lookup q.1==some .local&&sc.names.lookup q.2.2.1==some .local&&B2 a b&&fv as&&g8 Γ N sc as [a,b]
 |.dnew i,.Assign ts (.Dict [] [] _) _=>(Bp ts).any fun x=>N[i]?==some x&&di sc x
 |.dnew1 i n b,.Assign ts (.Dict [some k] [.Constant (.bool c) _ _] _) _=>(Bp ts).any fun x=>(y9 k).any fun z=>N[i]?==some x&&di sc x&&N[n]?==some z&&dh sc z&&okN z&&b==c
 |.putPop i j n,.Assign ts v _=>(Hx ts).any fun c=>(y9 c.2).any fun z=>N[i]?==some c.1&&dh sc c.1&&okN c.1&&N[n]?==some z&&dh sc z&&okN z&&(En v).any fun d=>d.2.1==("pop":Str)&&(wJ d.2.2).any fun e=>(y9 e).any fun z2=>z==z2&&N[j]?==some d.1&&dh sc d.1&&okN d.1
 |.minK m i,.Assign ts v _=>(Bp ts).any fun y=>(La v).any fun c=>N[m]?==some y&&di sc y&&N[i]?==some c.1&&sc.names.lookup c.1==some .cell&&f7 sc "min"&&Γ.bs.contains "min"&&Γ.hl&&sR c.1 c.2.1 c.2.2.1 c.2.2.2
 |_,_=>false
noncomputable def cQ(Γ:Pg)(N:List Str)(sc:Scope):Ss→List Stmt→Bool
 |.nil,[]=>true
 |.cons (.frz _) ss,ps=>cQ Γ N sc ss ps
 |.cons s ss,p::ps=>dO Γ N sc s p&&cQ Γ N sc ss ps
 |_,_=>false
end
section
variable{Γ:Pg}{X:Cx}{W:Wd}{F:bj}{N:List Str}{sc:Scope}{k:Nat}{H0:Hp}{E:XK}
theorem SR.go{env:Sl}{σ:St}{G H:Hp}(r:SR W H0 env σ G H):aE W G H0 G H:=⟨ay.refl _,r.base,r.sub,fun _ _ _ h=>h,fun _=>r.tab⟩
theorem aE.then{G G1 H1 G2 H2:Hp}(a:aE W G H0 G1 H1)(b:aE W G1 H0 G2 H2):aE W G H0 G2 H2:=⟨a.g.trans b.g,b.h,b.sub,fun x h1 h3 h2=>b.own x h1 h3 (a.own x h1 h3 h2),fun t=>b.tab (t.same a.g a.own fun _ _ h=>h)⟩
theorem SR.on{env:Sl}{σ:St}{G H G1 H1:Hp}(r:SR W H0 env σ G H)(g:aE W G H G1 H1):aE W G H0 G1 H1:=⟨g.g,r.base.trans g.h,g.sub,fun x h1 h3 h2=>g.own x (fun z=>h1 (r.base.free z)) (r.base.notup h1 h3) h2,fun _=>g.tab r.tab⟩
def Dn(W:Wd)(H0 G:Hp)(D:Ends):Fl→Prop
 |.nx env=>∀σ G' H',SR W H0 env σ G' H'→aE W G H0 G' H'→D.nx σ H'
 |.bk env=>∀σ G' H',SR W H0 env σ G' H'→aE W G H0 G' H'→D.bk σ H'
 |.ct env=>∀σ G' H',SR W H0 env σ G' H'→aE W G H0 G' H'→D.ct σ H'
 |.rt p=>∀v G' H',Rep W G' p v→aE W G H0 G' H'→D.rt v H'
def bR(W:Wd)(H0 G:Hp)(E:XK)(r:Res Fl)(D:Ends):Prop:=match r with
 |.ok f=>Dn W H0 G D f
 |.exc c=>∀Cv ao H',XE W c G H0 Cv ao H'→E Cv ao H'
 |.bad=>False
theorem Dn.on{G G1 H1:Hp}{D:Ends}{f:Fl}(h:Dn W H0 G D f)(g:aE W G H0 G1 H1):Dn W H0 G1 D f:=by
 cases f with
 |nx env=>exact fun σ G' H' r g'=>h σ G' H' r (g.then g')
 |bk env=>exact fun σ G' H' r g'=>h σ G' H' r (g.then g')
 |ct env=>exact fun σ G' H' r g'=>h σ G' H' r (g.then g')
 |rt p=>exact fun v G' H' r g'=>h v G' H' r (g.then g')
theorem bR.on{G G1 H1:Hp}{D:Ends}{r:Res Fl}(h:bR W H0 G E r D)(g:aE W G H0 G1 H1):bR W H0 G1 E r D:=by
 cases r with
 |ok f=>exact Dn.on h g
 |exc c=>
  intro Cv ao H' x;obtain⟨C,a,G',e1,e2,e3,e4,g2⟩:=x
  exact h Cv ao H' ⟨C,a,G',e1,e2,e3,e4,g.then g2⟩
 |bad=>exact h
noncomputable def tS(W:Wd)(F:bj)(H0:Hp)(E:XK)(s:S):TS:=fun D σ H=>∃G env,SR W H0 env σ G H∧bR W H0 G E (bu F s env) D
noncomputable def K0(W:Wd)(F:bj)(H0:Hp)(E:XK)(ss:Ss):TS:=fun D σ H=>∃G env,SR W H0 env σ G H∧bR W H0 G E (ax F ss env) D
abbrev GS(X:Cx)(W:Wd)(F:bj)(H0:Hp)(E:XK)(s:S)(p:Stmt):Prop:=PS X p (tS W F H0 E s)
abbrev ym(X:Cx)(W:Wd)(F:bj)(H0:Hp)(E:XK)(s:Ss)(p:List Stmt):Prop:=PSs X p (K0 W F H0 E s)
theorem _root_.L2.PS.imp{p:Stmt}{t t':TS}(h:PS X p t)(i:∀D σ H,t' D σ H→t D σ H):PS X p t':=fun pins s σ H D I hw=>h pins s σ H D I (i D σ H hw)
theorem _root_.L2.PSs.imp{p:List Stmt}{t t':TS}(h:PSs X p t)(i:∀D σ H,t' D σ H→t D σ H):PSs X p t':=fun pins s σ H D I hw=>h pins s σ H D I (i D σ H hw)
structure dA(Γ:Pg)(F:bj)(W:Wd)(N:List Str)(sc:Scope)(k:Nat)(E:XK)(X:Cx):Prop where
 C:dw Γ F W N sc k X
 fn:∀x,X.fn x=true
 own:PassesOwn (model X.prog X.w) X.A X.env X.xe
 pass:Passes (dC X.prog X.w) X E
 kind:sc.kind=.function
 stk:X.stack=X.env::X.outer
 frame:X.env.frame=some X.env.locals
 xs:∀c,Γ.rs.contains c=true→c∈W.xs
 rm:∀c,Γ.rs.contains c=true→∃C,X.mg c=some (.ref C)
 rz:∀(c z:Str) (j:Nat) (np zp cp pos:Pos),Γ.rs.contains c=true→f7 sc c=true→okN c=true→PS X (.Raise (some (.Call (.Name c np) [.Constant (.str z) j zp] [] cp)) none pos) (fun _ _ H=>∀C e,X.mg c=some (.ref C)→H e=none→E (.ref C) (some e) H)
 exm:Γ.cs.contains "FloorError"=true→∀c D,c∈W.xs→X.mg c=some (.ref D)→∀T,X.mg "FloorError"=some (.ref T)→PySem.W.exmOne X.K (.ref D) (.ref T)=some true
theorem zy(S:dA Γ F W N sc k E X){c:Str}{σ:St}{Gs G H:Hp}(g:aE W Gs H0 G H)(h:∀Cv ao H',XE W c Gs H0 Cv ao H'→E Cv ao H'):q8 X W σ c G H:=fun pins G1 H1 s1 e s' I g1 x=>
 S.pass pins σ H1 s1 e s' I (A1.imp x fun Cv a H' y=>h Cv a H' (by
  obtain⟨C,a',G',e1,e2,e3,e4,g2⟩:=y
  have g3:=g1.trans g2
  exact⟨C,a',G',e1,e2,e3,e4,g.g.trans g3.g,g.h.trans g3.h,g3.sub,fun x h1 h3 h2=>g3.own x (fun z=>h1 (g.h.free z)) (g.h.notup h1 h3) (g.own x h1 h3 h2),fun t=>g3.tab (g.tab t)⟩))
theorem bR.bind{α:Type}(S:dA Γ F W N sc k E X){r:Res α}{f:α→Res Fl}{D:Ends}{env:Sl}{σ:St}{G H:Hp}(sr:SR W H0 env σ G H)(h:bR W H0 G E (r.bind f) D):Out X W r σ G H fun a=>bR W H0 G E (f a) D:=by
 cases r with
 |ok a=>exact h
 |exc c=>exact zy S sr.go h
 |bad=>exact h
theorem oQ(S:dA Γ F W N sc k E X){env:Sl}{σ:St}{G H:Hp}{e:Ci.E}{f:PV→Res Fl}{D:Ends}{Q:VK}(sr:SR W H0 env σ G H)(o:bR W H0 G E ((aA F e env).bind f) D)
 (h:∀p v G1 H1,aE W G H G1 H1→Got W H0 G1 H1 e p v→SR W H0 env σ G1 H1→bR W H0 G1 E (f p) D→Q v H1):tE X W F e σ H Q:=
 ⟨H0,G,env,sr,(o.bind S sr).imp fun p hp v G1 H1 g1 t=>h p v G1 H1 g1 t (sr.grow g1) (hp.on (sr.on g1))⟩
theorem Bc(S:dA Γ F W N sc k E X){env:Sl}{σ:St}{G H:Hp}{e:Ci.E}{f:Bool→Res Fl}{D:Ends}{Q:Bool→Hp→Prop}(sr:SR W H0 env σ G H)(o:bR W H0 G E ((aA F e env).bind fun p=>rb p f) D)
 (h:∀b G1 H1,aE W G H G1 H1→SR W H0 env σ G1 H1→bR W H0 G1 E (f b) D→Q b H1):tT X W F e σ H Q:=by
 refine⟨H0,G,env,sr,(o.bind S sr).imp fun p hp=>?_⟩
 cases p with
 |bl b=>exact⟨b,rfl,fun G1 H1 g1=>h b G1 H1 g1 (sr.grow g1) (bR.on hp (sr.on g1))⟩
 |non=>exact False.elim hp
 |int _=>exact False.elim hp
 |str _=>exact False.elim hp
 |tup _=>exact False.elim hp
 |lst _=>exact False.elim hp
 |exc _=>exact False.elim hp
 |dct _ _=>exact False.elim hp
theorem GU(S:dA Γ F W N sc k E X){env:Sl}{σ:St}{G H:Hp}{e:Ci.E}{f:PV→Res Fl}{D:Ends}{Q:VK}(hl:∀env q,aA F e env=.ok q→∃xs,q=.lst xs)(sr:SR W H0 env σ G H)(o:bR W H0 G E ((aA F e env).bind f) D)
 (h:∀xs a vs G1 H1,aE W G H G1 H1→H1 a=none→ae W G1 xs vs→SR W H0 env σ G1 H1→bR W H0 G1 E (f (.lst xs)) D→Q (.ref a) (upd H1 a (.lst vs))):tF X W F e σ H Q:=by
 refine⟨H0,G,env,sr,?_⟩;have o2:=o.bind S sr
 cases r:aA F e env with
 |bad=>rw [r] at o2;exact o2
 |exc c=>rw [r] at o2;exact o2
 |ok q=>
  rw [r] at o2;obtain⟨xs,rfl⟩:=hl env q r
  exact⟨xs,rfl,fun a vs G' H' g ha l=>h xs a vs G' H' g ha l (sr.grow g) (bR.on o2 (sr.on g))⟩
end
end Ci
namespace Ci
open PySem L2
section
variable{Γ:Pg}{X:Cx}{W:Wd}{F:bj}{N:List Str}{sc:Scope}{k:Nat}{H0:Hp}{E:XK}
theorem nE{p:Expr}{t:Option Expr}{l:Nat}{env:Env}(h:mK p=true):swapsWith p t l env=pure false:=by
 cases p<;>first|rfl|(exact absurd h zzf)
theorem jg{elt:Expr}{gens:List Comprehension}{s:Scope}{p:Pos}{x:Str}{xp:Pos}{l:Nat}(hsc:X.env.scope=sc)(hk:sc.kind=.function):swapsWith (.ListComp elt gens s p) (some (.Name x xp)) l X.env=pure (JM sc x xp (.ListComp elt gens s p)):=by
 have hb:X.env.blockKind=.function:=by
  unfold Env.blockKind;rw [hsc,hk]
  rfl
 show(pure (X.env.blockKind==.function&&X.env.kindOf x==some .local&&xp.line==p.line&&!(s.names.any fun(n,k)=>n==x&&(k==.local||k==.cell))):Sem Bool)=_
 rw [hb];show(pure (true&&X.env.scope.names.lookup x==some .local&&_&&_):Sem Bool)=_
 rw [hsc]
 rfl
theorem zj(S:dA Γ F W N sc k E X){e:Ci.E}{p:Expr}{pos:Pos}(he:GE X W F e p)(hn:mK p=true):GS X W F H0 E (.expr e) (.Expr p pos):=
 L2.PS.imp (nN he (nE hn)) fun D σ H h=>by
  obtain⟨G,env,sr,o⟩:=h
  rw [bu] at o;exact oQ S sr o fun q v G1 H1 g t bD o1=>o1 σ G1 H1 bD bD.go
theorem Dp(S:dA Γ F W N sc k E X){e:Ci.E}{p:Expr}{pos:Pos}(dc:eV e=true)(he:GE X W F e p):GS X W F H0 E (.ret e) (.Return (some p) pos):=
 L2.PS.imp (D3 he) fun D σ H h=>by
  obtain⟨G,env,sr,o⟩:=h
  rw [bu] at o;exact oQ S sr o fun q v G1 H1 g t bD o1=>o1 v G1 H1 (t.rep dc) bD.go
theorem v3(S:dA Γ F W N sc k E X){c m:Str}{j:Nat}{np zp cp pos:Pos}(h1:Γ.rs.contains c=true)(h2:f7 sc c=true)(h3:okN c=true):GS X W F H0 E (.raise c m) (.Raise (some (.Call (.Name c np) [.Constant (.str m) j zp] [] cp)) none pos):=
 L2.PS.imp (S.rz c m j np zp cp pos h1 h2 h3) fun D σ H h C e hC he=>by
  obtain⟨G,env,sr,o⟩:=h
  rw [bu] at o;exact o _ _ _ ⟨C,e,G,rfl,rfl,S.xs c h1,by rw [S.C.mg];exact hC,sr.go⟩
theorem da(S:dA Γ F W N sc k E X){i:Nat}{x:Str}(h:N[i]?=some x)(hl:di sc x=true):X.N.Nodup∧X.N[i]?=some x∧Loc X.env.scope x:=by
 refine⟨by rw [S.C.hN];exact S.C.nd,by rw [S.C.hN];exact h,vP S.C.hsc hl⟩
theorem BE(S:dA Γ F W N sc k E X){i:Nat}{x:Str}{e:Ci.E}{p:Expr}{xp pos:Pos}(h:N[i]?=some x)(hl:di sc x=true)(dc:eV e=true)(he:GE X W F e p)(hs:swapsWith p (some (.Name x xp)) pos.line X.env=pure false):GS X W F H0 E (.set i e) (.Assign [.Name x xp] p pos):=by
 obtain⟨a1,a2,a3⟩:=da S h hl
 refine L2.PS.imp (iJ a1 a2 a3 he hs (.inl (S.fn x))) fun D σ H h=>?_
 obtain⟨G,env,sr,o⟩:=h
 rw [bu] at o;exact oQ S sr o fun q v G1 H1 g t bD o1=>o1 _ G1 H1 (bD.set i (t.rep dc)) bD.go
noncomputable def EH(X:Cx)(W:Wd)(F:bj)(i:Nat)(e:Ci.E):TS:=fun D σ H=>tF X W F e σ H fun v H1=>D.nx (σ.set i (some v)) H1
theorem FT{e:Ci.E}(hl:∀env q,aA F e env=.ok q→∃xs,q=.lst xs)(σ:St)(H:Hp)(Q:VK)(h:tE X W F e σ H Q):tF X W F e σ H Q:=by
 obtain⟨H0,G,env,sr,o⟩:=h
 refine⟨H0,G,env,sr,?_⟩;cases r:aA F e env with
 |bad=>rw [r] at o;exact o
 |exc c=>rw [r] at o;exact o
 |ok q=>
  rw [r] at o;obtain⟨xs,rfl⟩:=hl env q r
  exact⟨xs,rfl,fun a vs G' H' g ha l=>o _ _ _ (g.trans (.new g.sub ha)) (.of (.l (.inl (.inl ag)) (ae.same (bh (g.sub.free ha)) xs l)))⟩
theorem y7(S:dA Γ F W N sc k E X){i:Nat}{e:Ci.E}{p:Stmt}(hl:∀env q,aA F e env=.ok q→∃xs,q=.lst xs)(dc:eV e=true)(h:PS X p (EH X W F i e)):GS X W F H0 E (.set i e) p:=
 L2.PS.imp h fun D σ H hq=>by
  obtain⟨G,env,sr,o⟩:=hq
  rw [bu] at o;refine FT hl σ H _ (oQ S sr o fun q v G1 H1 g t bD o1=>?_);exact o1 _ G1 H1 (bD.set i (t.rep dc)) bD.go
theorem AJ(S:dA Γ F W N sc k E X){i:Nat}{x:Str}{e:Ci.E}{p:Stmt}(hi:N[i]?=some x)(hl:∀env q,aA F e env=.ok q→∃xs,q=.lst xs)(h:PS X p (EH X W F i e)):GS X W F H0 E (.own i e) p:=by
 intro pins s σ H D I hq;have FK:i<σ.length:=by rw [I.len,S.C.hN];exact(List.getElem?_eq_some_iff.mp hi).1
 refine h pins s σ H D I ?_;obtain⟨G,env,sr,o⟩:=hq
 rw [bu] at o;refine GU S hl sr o fun xs a vs G1 H1 g ha l bD o1=>?_
 have hO:Own W H0 G1 (upd H1 a (.lst vs)) (.lst xs) (.ref a):=⟨a,vs,rfl,ag,bD.sub.free ha,bD.base.free ha,l⟩
 obtain⟨r2,g2⟩:=rF bD bD.go (i:=i) (by rw [bD.len];exact FK) ha hO
 exact o1 _ G1 _ r2 g2
theorem mI{i:Nat}{x:Str}{e:Ci.E}{p:Expr}{xp pos:Pos}(S:dA Γ F W N sc k E X)(h:N[i]?=some x)(hl:di sc x=true)(he:GF X W F e p)(hs:swapsWith p (some (.Name x xp)) pos.line X.env=pure false):PS X (.Assign [.Name x xp] p pos) (EH X W F i e):=by
 obtain⟨a1,a2,a3⟩:=da S h hl
 exact iJ a1 a2 a3 he hs (.inl (S.fn x))
theorem x9(S:dA Γ F W N sc k E X){i:Nat}{x:Str}{xp ff:Pos}(hx:N[i]?=some x)(yN:di sc x=true){kk:Nat}{aU:List Nat}{tg:Tg}{it:I}{elt:Ci.E}{bX eG dm:Expr}{scope:Scope}{pos:Pos}(h:kL N sc scope kk aU (aM bX))(bW:jo kk tg=true)(dc:eV elt=true)(hi:GI X W F bX it eG)(hfs:∀x,foldedSetIterable eG X.env x=pure x)
 (vY:fK (aM bX++freeOf scope) (cJ scope sc) (ju scope) tg bX=true) (he:∀Y,dw Γ.nol F W (aM bX++freeOf scope) (cJ scope sc) k Y→GE Y W F elt dm):PS X (.Assign [.Name x xp] (.ListComp dm [⟨bX,eG,[],0⟩] scope pos) ff) (EH X W F i (.comp kk aU tg it elt)):=by
 obtain⟨a1,a2,a3⟩:=da S hx yN
 cases xj:JM sc x xp (.ListComp dm [⟨bX,eG,[],0⟩] scope pos) with
 |false=>exact mI S hx yN (tj S.C h bW dc hi hfs vY he) (by rw [jg S.C.hsc S.kind,xj])
 |true=>
  intro pins s σ H D I hq;have DM:(freeOf scope).Nodup:=(List.nodup_append.mp h.nd).2.1
  have rd:=sM (N:=N) S.C.K bW dc h.slots DM σ H _ hq
  have:=rq (g:=gT X.K tg) (te:=tN W F elt) (xs:=aM bX) (ys:=freeOf scope) (is:=aU) (pos:=pos) a1 a2 a3 S.C.calm (n9 S.C.hN S.C.hsc I.ok h) hi
   (fun fp s1 H1 A=>yg (fn:=ju scope) (X:=bQ X (aM bX++freeOf scope) scope (bz X.env (freeOf scope)) fp s1 H1 A) rfl h.nd (er S.C.hsc) rfl (fun _ z=>z) vY)
   (fun fp s1 H1 A=>L2.PE.imp (he _ (et S.C h fp s1 H1 A)) fun σ H Q z=>sP σ H Q z) (by rw [jg (l:=ff.line) S.C.hsc S.kind,xj]) hfs (.inl (S.fn x)) pins s σ H D I
  rw [h.len] at this;exact this rd
theorem qL(S:dA Γ F W N sc k E X){i:Nat}{x:Str}{xp ff:Pos}(hx:N[i]?=some x)(yN:di sc x=true){kk:Nat}{aU:List Nat}{tg:Tg}{it:I}{c elt:Ci.E}{bX eG pc dm:Expr}{scope:Scope}{pos:Pos}(h:kL N sc scope kk aU (aM bX))(bW:jo kk tg=true)(dc:eV elt=true)(hi:GI X W F bX it eG)(hfs:∀x,foldedSetIterable eG X.env x=pure x)
 (vY:fK (aM bX++freeOf scope) (cJ scope sc) (ju scope) tg bX=true) (hc:∀Y,dw Γ.nol F W (aM bX++freeOf scope) (cJ scope sc) k Y→GT Y W F c pc) (he:∀Y,dw Γ.nol F W (aM bX++freeOf scope) (cJ scope sc) k Y→GE Y W F elt dm):PS X (.Assign [.Name x xp] (.ListComp dm [⟨bX,eG,[pc],0⟩] scope pos) ff) (EH X W F i (.compIf kk aU tg it c elt)):=by
 obtain⟨a1,a2,a3⟩:=da S hx yN
 cases xj:JM sc x xp (.ListComp dm [⟨bX,eG,[pc],0⟩] scope pos) with
 |false=>exact mI S hx yN (mj S.C h bW dc hi hfs vY hc he) (by rw [jg S.C.hsc S.kind,xj])
 |true=>
  intro pins s σ H D I hq;have DM:(freeOf scope).Nodup:=(List.nodup_append.mp h.nd).2.1
  have rd:=lQ (N:=N) S.C.K bW dc h.slots DM σ H _ hq
  have:=nu (g:=gT X.K tg) (tt:=HH W F c) (te:=tN W F elt) (xs:=aM bX) (ys:=freeOf scope) (is:=aU) (pos:=pos) a1 a2 a3 S.C.calm (n9 S.C.hN S.C.hsc I.ok h) hi
   (fun fp s1 H1 A=>yg (fn:=ju scope) (X:=bQ X (aM bX++freeOf scope) scope (bz X.env (freeOf scope)) fp s1 H1 A) rfl h.nd (er S.C.hsc) rfl (fun _ z=>z) vY)
   (fun fp s1 H1 A=>L2.PT.imp (hc _ (et S.C h fp s1 H1 A)) fun σ H Q z=>xt σ H Q z)
   (fun fp s1 H1 A=>L2.PE.imp (he _ (et S.C h fp s1 H1 A)) fun σ H Q z=>sP σ H Q z) (by rw [jg (l:=ff.line) S.C.hsc S.kind,xj]) hfs (.inl (S.fn x)) pins s σ H D I
  rw [h.len] at this;exact this rd
theorem vb{tg:Tg}{p:PV}{env:Sl}(c:Str):Tg.put tg p env≠.exc c:=by
 unfold Tg.put;split<;>exact fun z=>nomatch z
theorem DQ(S:dA Γ F W N sc k E X){c:Ci.E}{a b:Ss}{p:Expr}{pa pb:List Stmt}{pos:Pos}(hc:GT X W F c p)(ha:ym X W F H0 E a pa)(hb:ym X W F H0 E b pb):GS X W F H0 E (.ite c a b) (.If p pa pb pos):=
 L2.PS.imp (G7 hc ha hb) fun D σ H h=>by
  obtain⟨G,env,sr,o⟩:=h
  rw [bu] at o;refine Bc S sr o fun t G1 H1 g bD o1=>?_
  cases t with
  |true=>
   rw [if_pos rfl] at o1⊢;exact⟨G1,env,bD,o1⟩
  |false=>
   rw [if_neg zzf] at o1⊢;exact⟨G1,env,bD,o1⟩
theorem Ck(S:dA Γ F W N sc k E X){c:Ci.E}{b:Ss}{p:Expr}{pb:List Stmt}{pos:Pos}(hc:GT X W F c p)(hb:ym X W F H0 E b pb):GS X W F H0 E (.whl c b) (.While p pb [] pos):=
 L2.PS.imp (w8 S.own hc hb) fun D σ H h=>by
  obtain⟨G,env,sr,o⟩:=h
  rw [bu] at o;refine⟨fun m σ' H'=>∃G' aH,SR W H0 aH σ' G' H'∧aE W G H0 G' H'∧bR W H0 G' E (cG (aA F c) (ax F b) m aH) D,⟨_,G,env,sr,sr.go,o⟩,?_⟩
  rintro m σ' H' ⟨G',aH,sr',g',o'⟩
  cases m with
  |zero=>exact o'.elim
  |succ m=>
   unfold cG at o';refine Bc S sr' o' fun t G1 H1 g1 bD o1=>?_
   cases t with
   |false=>
    rw [if_neg zzf] at o1⊢;exact o1 σ' G1 H1 bD bD.go
   |true=>
    rw [if_pos rfl] at o1⊢;refine⟨fun σ2 H2=>∃G2 d6,SR W H0 d6 σ2 G2 H2∧aE W G H0 G2 H2∧bR W H0 G2 E (cG (aA F c) (ax F b) m d6) D,fun σ2 H2 h2=>⟨m,Nat.lt_succ_self _,h2⟩,G1,aH,bD,?_⟩
    have gg:=g'.then (sr'.on g1)
    cases r:ax F b aH with
    |bad=>rw [r] at o1;exact o1.elim
    |exc cc=>rw [r] at o1;exact o1
    |ok f=>
     rw [r] at o1;cases f with
     |nx d6=>exact fun σ2 G2 H2 eX g2=>⟨G2,d6,eX,gg.then g2,bR.on (show bR W H0 G1 E (cG (aA F c) (ax F b) m d6) D from o1) g2⟩
     |ct d6=>exact fun σ2 G2 H2 eX g2=>⟨G2,d6,eX,gg.then g2,bR.on (show bR W H0 G1 E (cG (aA F c) (ax F b) m d6) D from o1) g2⟩
     |bk d6=>exact fun σ2 G2 H2 eX g2=>o1 σ2 G2 H2 eX g2
     |rt q=>exact fun v G2 H2 rv g2=>o1 v G2 H2 rv g2
theorem BO(S:dA Γ F W N sc k E X){tg:Tg}{it:I}{b:Ss}{bX eG:Expr}{pb:List Stmt}{pos:Pos}(vY:fK N sc (fun _=>true) tg bX=true)(hit:yC it=true)(hi:GI X W F bX it eG)(hfs:∀x,foldedSetIterable eG X.env x=pure x)(hb:ym X W F H0 E b pb):GS X W F H0 E (.for_ tg it b) (.For bX eG pb [] pos):=
 L2.PS.imp (Eg S.own S.C.calm hi (yg (fn:=fun _=>true) S.C.hN S.C.nd S.C.hsc S.C.calm (fun x _=>S.fn x) vY) hb hfs) fun D σ H h=>by
  obtain⟨G,env,sr,o⟩:=h
  rw [bu] at o;refine⟨H0,G,env,sr,(o.bind S sr).imp fun ps ji J G1 H1 g1 gi=>?_⟩
  have frz:=gi.frz hit
  generalize hf:(fun(x:PV) (env:Sl)=>(tg.put x env).bind fun aH=>ax F b aH)=f at ji
  have bD:=sr.grow g1
  refine⟨fun i m σ' H'=>i≤ps.length∧m=ps.length-i∧∃G' aH,SR W H0 aH σ' G' H'∧aE W G1 H0 G' H'∧bR W H0 G' E (forL f (ps.drop i) aH) D,⟨_,Nat.zero_le _,rfl,G1,env,bD,bD.go,by rw [List.drop_zero];exact bR.on ji (sr.on g1)⟩,?_⟩
  rintro i m σ' H' ⟨E9,hm,G',aH,sr',g',o'⟩
  obtain⟨ist,igo⟩:=frz i G' H' g'.g (.of (g'.g.trans sr'.sub)) sr'.sub
  by_cases hlast:i=ps.length
  ·refine .inl ⟨ist hlast,?_⟩;rw [hlast,List.drop_length] at o';exact o' σ' G' H' sr' sr'.go
  ·have bW:i<ps.length:=by omega
   obtain⟨hgo,hyld⟩:=igo ps[i] (List.getElem?_eq_getElem bW)
   refine .inr ⟨hgo,fun σ2 H2=>i+1≤ps.length∧∃G2 d6,SR W H0 d6 σ2 G2 H2∧aE W G1 H0 G2 H2∧bR W H0 G2 E (forL f (ps.drop (i+1)) d6) D,fun σ2 H2 h2=>⟨ps.length-(i+1),by omega,h2.1,rfl,h2.2⟩,fun x kZ hy=>?_⟩
   obtain⟨sf,g'',rx⟩:=hyld x kZ hy
   rw [List.drop_eq_getElem_cons bW] at o';unfold forL at o';have MZ:f ps[i] aH=(tg.put ps[i] aH).bind fun aH=>ax F b aH:=by rw [←hf]
   rw [MZ] at o';have eX:=sr'.grow g''
   have g2:=g'.then (sr'.on g'')
   cases r:tg.put ps[i] aH with
   |bad=>rw [r] at o';exact o'.elim
   |exc c=>exact absurd r (vb c)
   |ok d6=>
    rw [r] at o';refine qo S.C.K r eX rx fun σ2 sr3=>⟨sf,d6,sr3,?_⟩
    have o2:bR W H0 sf E ((ax F b d6).bind fun fl=>match fl with
     |.nx aH=>forL f (ps.drop (i+1)) aH
     |.ct aH=>forL f (ps.drop (i+1)) aH
     |.bk aH=>.ok (.nx aH)
     |.rt p=>.ok (.rt p)) D:=bR.on o' (sr'.on g'')
    cases r2:ax F b d6 with
    |bad=>rw [r2] at o2;exact o2.elim
    |exc cc=>rw [r2] at o2;exact o2
    |ok fl=>
     rw [r2] at o2;cases fl with
     |nx env3=>exact fun σ3 G3 H3 CQ g3=>⟨bW,G3,env3,CQ,g2.then g3,bR.on (show bR W H0 sf E (forL f (ps.drop (i+1)) env3) D from o2) g3⟩
     |ct env3=>exact fun σ3 G3 H3 CQ g3=>⟨bW,G3,env3,CQ,g2.then g3,bR.on (show bR W H0 sf E (forL f (ps.drop (i+1)) env3) D from o2) g3⟩
     |bk env3=>exact fun σ3 G3 H3 CQ g3=>o2 σ3 G3 H3 CQ g3
     |rt q=>exact fun v G3 H3 rv g3=>o2 v G3 H3 rv g3
theorem yB:ym X W F H0 E .nil []:=L2.PSs.imp yW fun D σ H h=>by
 obtain⟨G,env,sr,o⟩:=h
 rw [ax] at o;exact o σ G H sr sr.go
theorem w5{s:Ci.S}{ss:Ss}{p:Stmt}{ps:List Stmt}(h1:GS X W F H0 E s p)(h2:ym X W F H0 E ss ps):ym X W F H0 E (.cons s ss) (p::ps):=
 L2.PSs.imp (yb h1 h2) fun D σ H h=>by
  obtain⟨G,env,sr,o⟩:=h
  rw [ax] at o;refine⟨G,env,sr,?_⟩;cases r:bu F s env with
  |bad=>rw [r] at o;exact o
  |exc c=>rw [r] at o;exact o
  |ok f=>
   rw [r] at o;cases f with
   |nx d6=>exact fun σ2 G2 H2 eX g2=>⟨G2,d6,eX,bR.on (show bR W H0 G E (ax F ss d6) D from o) g2⟩
   |bk d6=>exact o
   |ct d6=>exact o
   |rt q=>exact o
theorem ze{i:Nat}{ss:Ss}{ps:List Stmt}(h:ym X W F H0 E ss ps):ym X W F H0 E (.cons (.frz i) ss) ps:=by
 intro pins s σ H D I hq;obtain⟨G,env,sr,o⟩:=hq
 rw [ax,bu] at o;rcases Dc sr sr.go i with⟨G',sr',g'⟩|⟨a,au,ha,k⟩
 ·exact h pins s σ H D I ⟨G',_,sr',bR.on (show bR W H0 G E (ax F ss (env.modify i nT)) D from o) g'⟩
 ·obtain⟨ob,J⟩:=I.freeze ha
  obtain⟨G',sr',g'⟩:=k ob
  exact h pins s σ _ D J ⟨G',_,sr',bR.on (show bR W H0 G E (ax F ss (env.modify i nT)) D from o) g'⟩
end
end Ci
namespace L2
open PySem PySem.Spec PyProof.Rows
noncomputable def J7(tk tv:TE):TE:=fun σ H Q=>∀p,H p=none→tk σ (upd H p (.dT [])) fun x H1=>tv σ H1 fun y H2=>∃b ks,x=.ref b∧H2 p=some (.dT [])∧H2 b=some (.tup (ks.map kV))∧Q (.ref p) (upd H2 p (.dT (putK [] ks y)))
theorem Dr{X:Cx}{pos:Pos}{k v:Expr}{tk tv:TE}(hu:X.A.units<cLine)(hk:PE X k tk)(hv:PE X v tv):PE X (.Dict [some k] [v] pos) (J7 tk tv):=by
 intro pins s σ H Q I q;have hn:=I.hok.fresh (Nat.le_refl s.heap.objs.size)
 have I1:=I.laid (a:=s.heap.objs.size) (o:=.dT []) (h':=s.heap.push {cls:=.type "dict",data:=.dict #[]}) (t':=s.toks) (fun _ _ q=>Heap.get?_push_of_some _ q) (Nat.le_refl _) (kg s.heap I.big)
 refine wpAny_Dict_any rfl rfl (by simp) (show 1≤15 by decide) (pairTrees_cons_walk (bC (hk pins _ σ _ _ I1 (q _ hn)) fun u s1 ⟨x,H1,I1',rx,q1⟩=>bC (hv pins s1 σ H1 _ I1' q1) fun w2 s2 ⟨y,H2,I2,ry,q2⟩=>pairTrees_nil_walk ?_))
 obtain⟨b,ks,rfl,e,hb,q3⟩:=q2
 cases rx;unfold storeAll;refine wpAny_forIn_list _ (fun rest _ s'=>(rest=[(Value.ref b,w2)]∧s'=s2)∨(rest=[]∧∃v' H',Inv X pins σ H' s'∧RelV v' (.ref s.heap.objs.size)∧Q v' H')) _ (fun x rest _ s' hI=>?_) (fun _ s' hI=>?_) _ _ (.inl ⟨rfl,rfl⟩)
 ·rcases hI with⟨h1,rfl⟩|⟨h1,_⟩
  ·cases h1;refine wpAny_bind (xR hu I2 e hb (by decide) ry fun h' t hs I3=>wpAny_pure (.inr ⟨rfl,.ref _,_,I3,rfl,q3⟩))
  ·cases h1
 ·rcases hI with⟨h1,_⟩|⟨_,v',H',I',r',q'⟩
  ·cases h1
  ·exact⟨v',H',I',r',q'⟩
end L2
namespace Ci
open PySem L2
section
variable{Γ:Pg}{X:Cx}{W:Wd}{F:bj}{N:List Str}{sc:Scope}{k:Nat}{H0:Hp}{E:XK}
theorem q9(hK:W.K=X.K):Iy X "list.extend" (fun x vs H Q=>∃l b xs zs,x=.ref l∧vs=[.ref b]∧H l=some (.lst xs)∧LsR W.K H b zs∧xs.length+zs.length≤sizeLine∧Q .non (upd H l (.lst (xs++zs)))):=by
 intro pins s σ H x vs v us Q I rx rv h;obtain⟨l,b,xs,zs,rfl,rfl,hH,hB,hz,q⟩:=h
 cases rx;obtain⟨u,rfl,ru⟩:=Vals.one rv
 cases ru;obtain⟨z,aq,n,r,hl,e⟩:=I.lstM hH
 obtain⟨aD,n2,r2,Jv,z2,e2⟩:=AR hK I hB
 have hsz:aq.toArray.size+aD.toArray.size≤sizeLine:=by rw [List.size_toArray,List.size_toArray];omega
 have Ga:¬(!aq.toArray.isEmpty&&Builtin.List.listTooLong (aq.toArray.size+aD.toArray.size))=true:=by
  rw [xo hsz,Bool.and_false];exact zzf
 refine PySem.call_meets PySem.F.slot_list_extend ⟨_,e,rfl⟩ PySem.F.entry_list_extend (PySem.F.args_list_extend_2 _ _)
  (PySem.AutoSeq1.list_extend_list_list_0 l aq.toArray n b aD.toArray n2 Ga (by rw [List.size_toArray];omega) (by omega)) ⟨e,e2,?_⟩
 refine⟨.non,_,I.lset (its':=aq++aD) hH e (by simp) (r.append r2) ?_,rfl,q⟩;rw [List.length_append];omega
theorem fF(S:dA Γ F W N sc k E X){i:Nat}{x:Str}{pos:Pos}(h:N[i]?=some x)(hv:dh sc x=true)(ho:okN x=true):PE X (.Name x pos) (xM i):=
 d7 (by rw [S.C.hN];exact h) (j8 S.C hv) (cM ho).1 (cM ho).2.1
theorem mU{env:Sl}{σ:St}{G H:Hp}{i:Nat}{xs:List PV}(sr:SR W H0 env σ G H)(h:env[i]?=some (.own (.lst xs))):∃a vs,σ[i]?=some (some (.ref a))∧H a=some (.lst vs)∧G a=none∧H0 a=none∧ae W G xs vs:=by
 obtain⟨o,ho,v,rfl,a,vs,rfl,h1,h2,h3,l⟩:=sr.slot i _ h
 exact⟨a,vs,ho,h1,h2,h3,l⟩
theorem DX(S:dA Γ F W N sc k E X){i:Nat}{x:Str}{e:Ci.E}{p:Expr}{np apos br pos:Pos}(h:N[i]?=some x)(hv:dh sc x=true)(ho:okN x=true)(fI:(apos.endLine==br.line)=true)(dc:eV e=true)(he:GE X W F e p)
 (dB:∀env ps,starEach (p::ps) env=(false,eval p env)::starEach ps env):GS X W F H0 E (.app i e) (.Expr (.Call (.Attribute (.Name x np) "append" apos) [p] [] br) pos):=by
 refine L2.PS.imp (nN (BA PySem.F.plainAttrs_list PySem.F.slot_list_append PySem.F.type_list_append uF (fF S h hv ho) (bO he dg (dB _ _)) rfl (by rw [dB];rfl) fI (dB _ _) rfl) rfl) fun D σ H hq=>?_
 obtain⟨G,env,sr,o⟩:=hq
 rw [bu] at o;split at o
 ·rename_i xs hx;obtain⟨a,vs,hs,h1,h2,h3,l⟩:=mU sr hx
  refine⟨.ref a,hs,.inl ⟨rfl,_,eh.of h1⟩,oQ S sr o fun q v G1 H1 g t bD o1=>?_⟩
  split at o1
  ·rename_i hl;have mD:=g.h.at h1 (fun _ z=>nomatch z)
   have sV:=g.own a (by rw [h1];exact fun z=>nomatch z) (by rw [h1];exact fun _ z=>nomatch z) h2
   have l':=ae.same g.g xs l
   refine⟨a,vs,v,rfl,rfl,mD,by rw [l.length];exact Nat.lt_of_lt_of_le hl (by decide),?_⟩;obtain⟨r2,g2⟩:=iK (p':=.lst (xs++[q])) (ob:=.lst (vs++[v])) bD bD.go hx hs sV h3 ⟨a,_,rfl,ag,sV,h3,l'.append (.cons (t.rep dc) .nil)⟩
   exact o1 _ G1 _ r2 g2
  ·exact o1.elim
 ·exact o.elim
theorem zP(S:dA Γ F W N sc k E X){i:Nat}{x:Str}{e:Ci.E}{p:Expr}{np apos br pos:Pos}(h:N[i]?=some x)(hv:dh sc x=true)(ho:okN x=true)(fI:(apos.endLine==br.line)=true)(he:GE X W F e p)
 (dB:∀env ps,starEach (p::ps) env=(false,eval p env)::starEach ps env):GS X W F H0 E (.extd i e) (.Expr (.Call (.Attribute (.Name x np) "extend" apos) [p] [] br) pos):=by
 refine L2.PS.imp (nN (BA PySem.F.plainAttrs_list PySem.F.slot_list_extend PySem.F.type_list_extend (q9 S.C.K) (fF S h hv ho) (bO he dg (dB _ _)) rfl (by rw [dB];rfl) fI (dB _ _) rfl) rfl) fun D σ H hq=>?_
 obtain⟨G,env,sr,o⟩:=hq
 rw [bu] at o;split at o
 ·rename_i xs hx;obtain⟨a,vs,hs,h1,h2,h3,l⟩:=mU sr hx
  refine⟨.ref a,hs,.inl ⟨rfl,_,eh.of h1⟩,oQ S sr o fun q v G1 H1 g t bD o1=>?_⟩
  split at o1
  ·rename_i ys;split at o1
   ·rename_i hl;have mD:=g.h.at h1 (fun _ z=>nomatch z)
    have sV:=g.own a (by rw [h1];exact fun z=>nomatch z) (by rw [h1];exact fun _ z=>nomatch z) h2
    have l':=ae.same g.g xs l
    obtain⟨b,us,rfl,hb,lb⟩:=t.top.lst bD.sub
    refine⟨a,b,vs,us,rfl,rfl,mD,hb,by rw [l.length,lb.length];exact kM hl,?_⟩;obtain⟨r2,g2⟩:=iK (p':=.lst (xs++ys)) (ob:=.lst (vs++us)) bD bD.go hx hs sV h3 ⟨a,_,rfl,ag,sV,h3,l'.append lb⟩
    exact o1 _ G1 _ r2 g2
   ·exact o1.elim
  ·exact o1.elim
 ·exact o.elim
def F8:V→V→V→Hp→(Hp→Prop)→Prop:=fun o i v H Q=>∃a H',o=.ref a∧uB H a i v H'∧Q H'
theorem sh(hu:X.A.units+1<cLine):GZ X F8:=by
 intro pins s σ H o i v ov iv u Q I ro ri rv h;obtain⟨a,H',rfl,g,q⟩:=h
 cases ro;exact uw hu I g ri rv fun s' I'=>⟨H',I',q⟩
theorem il{env:Sl}{σ:St}{G H:Hp}{i:Nat}{ks:List (List Int)}{ps:List PV}(sr:SR W H0 env σ G H)(h:env[i]?=some (.own (.dct ks ps))):∃a us,σ[i]?=some (some (.ref a))∧ks.length=us.length∧H a=some (.dT (kz ks us))∧G a=none∧H0 a=none∧ae W G ps us:=by
 obtain⟨o,ho,v,rfl,a,us,rfl,n,h1,h2,h3,l⟩:=sr.slot i _ h
 exact⟨a,us,ho,n,h1,h2,h3,l⟩
theorem CM(S:dA Γ F W N sc k E X){i:Nat}{x:Str}{kk e:Ci.E}{pk p:Expr}{np ff pos:Pos}(h:N[i]?=some x)(hv:dh sc x=true)(ho:okN x=true)(dc:eV e=true)(Lo:aS Γ N sc kk pk=true)(hk:GE X W F kk pk)(he:GE X W F e p):GS X W F H0 E (.put i kk e) (.Assign [.Subscript (.Name x np) pk ff] p pos):=by
 have xj:swappedStores [.Subscript (.Name x np) pk ff] p X.env=pure none:=by cases p<;>rfl
 have ha:∀v,assign (.Subscript (.Name x np) pk ff) X.env v=(do
  let ov←holding [v] (eval (.Name x np) X.env)
  let iv←holding [v,ov] (eval pk X.env)
  standAt ff
  holding [v,ov,iv] (setItem ov iv v)
  release [v,ov,iv] []):=by
  intro v;cases pk<;>first|rfl|(cases kk<;>first|(exact absurd Lo zzf)|(rename_i q;cases q<;>exact absurd Lo zzf))
 refine L2.PS.imp (wt he (x6 (fF S h hv ho) hk (sh (by have:=S.C.room.un;omega)) ha) (by cases p<;>rfl) xj) fun D σ H hq=>?_
 obtain⟨G,env,sr,o⟩:=hq
 rw [bu] at o;refine oQ S sr o fun q v G1 H1 g t bD o1=>?_
 split at o1
 ·rename_i ks ps hx;obtain⟨a,us,hs,n,h1,h2,h3,l⟩:=il bD hx
  refine⟨.ref a,hs,oQ S bD o1 fun q2 v2 G2 H2 g2 t2 eX o2=>?_⟩
  split at o2
  ·rename_i kk Ej;split at o2
   ·rename_i uh;have e2:=eK Ej
    subst e2;obtain⟨b,rfl,hb⟩:=t2.top.tupI (ns:=kk) eX.sub rfl
    have mD:=g2.h.at h1 (fun _ z=>nomatch z)
    have sV:=g2.own a (by rw [h1];exact fun z=>nomatch z) (by rw [h1];exact fun _ z=>nomatch z) h2
    have l':=ae.same g2.g ps l
    refine⟨a,upd H2 a (.dT (putK (kz ks us) (ki kk) v)),rfl,uB.t mD (by rw [nY];exact eX.sub _ _ hb) (by rw [eN n];exact Nat.lt_of_lt_of_le uh (by decide)),?_⟩;rw [rC n];obtain⟨r2,gg⟩:=iK (p':=.dct (bt ks kk) (bq ks ps kk q)) (ob:=.dT (kz (bt ks kk) (bq ks us kk v))) eX eX.go hx hs sV h3 ⟨a,_,rfl,j4 n kk v,ag,sV,h3,mQ l' (Rep.same g2.g q (t.rep dc))⟩
    exact o2 _ G2 _ r2 gg
   ·exact o2.elim
  ·exact o2.elim
 ·exact o1.elim
theorem AD(S:dA Γ F W N sc k E X){i:Nat}{x:Str}{np dp pos:Pos}(h:N[i]?=some x)(hl:di sc x=true):GS X W F H0 E (.dnew i) (.Assign [.Name x np] (.Dict [] [] dp) pos):=by
 obtain⟨a1,a2,a3⟩:=da S h hl
 intro pins s σ H D I hq;have FK:i<σ.length:=by rw [I.len,S.C.hN];exact(List.getElem?_eq_some_iff.mp h).1
 refine iJ a1 a2 a3 vV rfl (.inl (S.fn x)) pins s σ H D I ?_;obtain⟨G,env,sr,o⟩:=hq
 rw [bu] at o;intro p hp;obtain⟨r2,g2⟩:=rF (i:=i) (p:=.dct [] []) (ob:=.dT []) sr sr.go (by rw [sr.len];exact FK) hp ⟨p,[],rfl,rfl,ag,sr.sub.free hp,sr.base.free hp,.nil⟩
 exact o _ G _ r2 g2
theorem xl(S:dA Γ F W N sc k E X){i n:Nat}{x z:Str}{b:Bool}{np zp dp cp pos:Pos}{j:Nat}(h:N[i]?=some x)(hl:di sc x=true)(hz:N[n]?=some z)(HD:dh sc z=true)(Fn:okN z=true):GS X W F H0 E (.dnew1 i n b) (.Assign [.Name x np] (.Dict [some (.Name z zp)] [.Constant (.bool b) j cp] dp) pos):=by
 obtain⟨a1,a2,a3⟩:=da S h hl
 intro pins s σ H D I hq;have FK:i<σ.length:=by rw [I.len,S.C.hN];exact(List.getElem?_eq_some_iff.mp h).1
 refine iJ a1 a2 a3 (Dr (by have:=S.C.room.un;omega) (d7 (by rw [S.C.hN];exact hz) (j8 S.C HD) (cM Fn).1 (cM Fn).2.1) Bv) rfl (.inl (S.fn x)) pins s σ H D I ?_;obtain⟨G,env,sr,o⟩:=hq
 rw [bu] at o;intro p hp;cases e:env[n]? with
 |none=>rw [e] at o;exact o.elim
 |some sl=>
  rw [e] at o;cases sl with
  |val kp=>
   cases hk:f9 kp with
   |none=>
    have o':bR W H0 G E ((Res.of (f9 kp)).bind fun kk=>Res.ok (Fl.nx (env.set i (.own (.dct [kk] [.bl b]))))) D:=o
    rw [hk] at o';exact o'.elim
   |some kk=>
    have o':bR W H0 G E ((Res.of (f9 kp)).bind fun kk=>Res.ok (Fl.nx (env.set i (.own (.dct [kk] [.bl b]))))) D:=o
    rw [hk] at o';have e2:=eK hk
    subst e2;obtain⟨v,hv,rv⟩:=sr.slot n _ e
    obtain⟨v',rfl,rv⟩:=rv
    obtain⟨ad,rfl,hb⟩:=jh rv
    have hH:=sr.sub _ _ hb
    have fc:ad≠p:=fun q=>by rw [q,hp] at hH;cases hH
    refine⟨.ref ad,hv,ad,ki kk,rfl,ag,by rw [aa fc,nY];exact hH,?_⟩;obtain⟨r2,g2⟩:=rF (i:=i) (p:=.dct [kk] [.bl b]) (ob:=.dT (kz [kk] [V.bl b])) sr sr.go (by rw [sr.len];exact FK) hp ⟨p,[V.bl b],rfl,rfl,ag,sr.sub.free hp,sr.base.free hp,.cons .b .nil⟩
    have uu:upd (upd H p (.dT [])) p (.dT (putK [] (ki kk) (V.bl b)))=upd H p (.dT (kz [kk] [V.bl b])):=by
     funext q
     by_cases hq:q=p
     ·subst hq;rw [ag,ag];rfl
     ·rw [aa hq,aa hq,aa hq]
    rw [uu];exact o' _ G _ r2 g2
  |no=>exact o.elim
  |own _=>exact o.elim
  |fn _ _ _=>exact o.elim
theorem tO(S:dA Γ F W N sc k E X){i j n:Nat}{x y z:Str}{np zp ff yp apos Ln br pos:Pos}(h:N[i]?=some x)(hv:dh sc x=true)(ho:okN x=true)(hz:N[n]?=some z)(HD:dh sc z=true)(Fn:okN z=true)(hy:N[j]?=some y)(NF:dh sc y=true)(Mr:okN y=true)
 (fI:(apos.endLine==br.line)=true):GS X W F H0 E (.putPop i j n) (.Assign [.Subscript (.Name x np) (.Name z zp) ff] (.Call (.Attribute (.Name y yp) "pop" apos) [.Name z Ln] [] br) pos):=by
 have hu:X.A.units+1<cLine:=by have:=S.C.room.un;omega
 refine L2.PS.imp (wt (zo hu (fF S hy NF Mr) (fF S hz HD Fn) ⟨rfl,rfl,fI,rfl⟩) (x6 (fF S h hv ho) (fF S hz HD Fn) (sh hu) fun _=>rfl) (by unfold swapsWithSole;exact nE rfl) rfl) fun D σ H hq=>?_
 obtain⟨G,env,sr,o⟩:=hq
 rw [bu] at o;split at o
 ·rename_i ks ps ks2 ps2 kp e1 e2 e3;split at o
  ·rename_i kk Ej;split at o
   ·rename_i p hp;split at o
    ·rename_i uh;have ek:=eK Ej
     subst ek;obtain⟨a,us,hs,nn,h1,h2,h3,l⟩:=il sr e1
     obtain⟨ok,hk1,v,rfl,rv⟩:=sr.slot n _ e3
     obtain⟨b,rfl,hb⟩:=jh rv
     obtain⟨w,hw,kw⟩:=nZ l hp
     refine⟨.ref a,hs,a,rfl,.inr ⟨_,.inl h1⟩,.ref b,hk1,_,ki kk,b,w,h1,rfl,(by rw [nY];exact sr.sub _ _ hb),(by rw [kG];exact hw),?_⟩;rw [rS kk nn];obtain⟨r1,g1⟩:=iK (p':=.dct (bL ks kk) (aR ks ps kk)) (ob:=.dT (kz (bL ks kk) (aR ks us kk))) sr sr.go e1 hs h2 h3 ⟨a,_,rfl,pY kk nn,ag,h2,h3,kq l⟩
     have Hu:(env.set j (.own (.dct (bL ks kk) (aR ks ps kk))))[i]?=some (.own (.dct ks2 ps2)):=by rw [List.getElem?_set_ne (Ne.symm uh.2)];exact e2
     obtain⟨a2,us2,yk,n2,k1,k2,k3,l2⟩:=il r1 Hu
     refine⟨.ref a2,yk,.ref b,hk1,a2,_,rfl,uB.t k1 (by rw [nY];exact r1.sub _ _ hb) (by rw [eN n2];exact Nat.lt_of_lt_of_le uh.1 (by decide)),?_⟩;rw [rC n2];obtain⟨r2,g2⟩:=iK (p':=.dct (bt ks2 kk) (bq ks2 ps2 kk p)) (ob:=.dT (kz (bt ks2 kk) (bq ks2 us2 kk w))) r1 g1 Hu yk k2 k3 ⟨a2,_,rfl,j4 n2 kk w,ag,k2,k3,mQ l2 kw⟩
     exact o _ G _ r2 g2
    ·exact o.elim
   ·exact o.elim
  ·exact o.elim
 ·exact o.elim
theorem Ee(S:dA Γ F W N sc k E X){i j:Nat}{x y:Str}{np yp apos br pos:Pos}(h:N[i]?=some x)(hv:dh sc x=true)(ho:okN x=true)(fI:(apos.endLine==br.line)=true)(hy:N[j]?=some y)(hl:di sc y=true):GS X W F H0 E (.pop j i) (.Assign [.Name y yp] (.Call (.Attribute (.Name x np) "pop" apos) [] [] br) pos):=by
 obtain⟨a1,a2,a3⟩:=da S hy hl
 refine L2.PS.imp (iJ a1 a2 a3 (BQ PySem.F.plainAttrs_list PySem.F.slot_list_pop PySem.F.type_list_pop CO (fF S h hv ho) rfl fI) rfl (.inl (S.fn y))) fun D σ H hq=>?_
 obtain⟨G,env,sr,o⟩:=hq
 rw [bu] at o;split at o
 ·rename_i xs hx;obtain⟨a,vs,hs,h1,h2,h3,l⟩:=mU sr hx
  cases r:xs[xs.length-1]? with
  |none=>rw [r] at o;exact o.elim
  |some p=>
   rw [r] at o;obtain⟨v,hv2,rv⟩:=l.getP r
   refine⟨.ref a,hs,.inl ⟨rfl,_,eh.of h1⟩,a,vs,v,rfl,rfl,h1,by rw [l.length];exact hv2,?_⟩;have ld:ae W G xs.dropLast vs.dropLast:=by
    rw [List.dropLast_eq_take,List.dropLast_eq_take,l.length];exact l.take _
   obtain⟨r2,gg⟩:=iK (p':=.lst xs.dropLast) (ob:=.lst vs.dropLast) sr sr.go hx hs h2 h3 ⟨a,_,rfl,ag,h2,h3,ld⟩
   exact o _ G _ (r2.set j rv) gg
 ·exact o.elim
end
end Ci
namespace Ci
open PySem L2
section
variable{Γ:Pg}{X:Cx}{W:Wd}{F:bj}{N:List Str}{sc:Scope}{k:Nat}{H0:Hp}{E:XK}
theorem DV{env:Env}{x y:Str}{px py pt ED:Pos}{kt k2}{a b:Expr}(hk:env.scope.kind=.function)(hx:env.scope.names.lookup x=some .local)(hy:env.scope.names.lookup y=some .local)(hl:py.line=px.line)(fc:x≠y)(hp:B2 a b=true):
 swappedStores [.Tuple [.Name x px,.Name y py] kt pt] (.Tuple [a,b] k2 ED) env=pure (some [x,y]):=by
 unfold B2 at hp;simp only [Bool.and_eq_true] at hp;obtain⟨⟨⟨h1,h2⟩,h3⟩,h4⟩:=hp
 have s1:isStar a=false:=by simpa using h1
 have s2:isStar b=false:=by simpa using h2
 have b1:env.blockKind=.function:=by unfold Env.blockKind;rw [hk];rfl
 have k1:env.kindOf x=some .local:=hx
 have k2:env.kindOf y=some .local:=hy
 simp only [Bool.not_eq_true'] at h3 h4;have Ij:(y==x)=false:=beq_eq_false_iff_ne.mpr (Ne.symm fc)
 have Mc:(x==y)=false:=beq_eq_false_iff_ne.mpr fc
 have n2:[x,y].eraseDups=[x,y]:=by simp [List.eraseDups_cons,Ij]
 have n3:[a,b].all (foldedForSure 8)=false:=by simpa using h3
 have n4:[a,b].all (constantsAlone 8)=false:=by simpa using h4
 unfold swappedStores;simp only [List.any_cons,List.any_nil,Bool.or_false,pure_bind,List.filterMap_cons,List.filterMap_nil,k1,k2,Expr.pos,hl,List.head?_cons,Option.map_some,Option.getD_some,BEq.rfl,Bool.and_self,if_true,n2,n3,n4,b1];refine(if_neg zzf).trans ((if_neg fun z=>?_).trans rfl);rcases Bool.or_eq_true_iff.mp z with z|z
 ·split at z
  ·cases s1
  ·cases z
 ·split at z
  ·cases s2
  ·cases z
theorem GQ(S:dA Γ F W N sc k E X){env:Sl}{σ:St}{G H:Hp}{es:Es}{f:List PV→Res Fl}{D:Ends}{Q:List V→Hp→Prop}(sr:SR W H0 env σ G H)(o:bR W H0 G E ((aB F es env).bind f) D)
 (h:∀ps vs G1 H1,aE W G H G1 H1→CK W H0 G1 H1 es ps vs→SR W H0 env σ G1 H1→bR W H0 G1 E (f ps) D→Q vs H1):tA X W F es σ H Q:=
 ⟨H0,G,env,sr,(o.bind S sr).imp fun p hp v G1 H1 g1 t=>h p v G1 H1 g1 t (sr.grow g1) (hp.on (sr.on g1))⟩
theorem Ai(S:dA Γ F W N sc k E X)(i j:Nat)(as:Es)(p:Stmt)(h:dO Γ N sc (.par i j as) p=true):GS X W F H0 E (.par i j as) p:=by
 cases p<;>first|(exact absurd h zzf)|skip
 rename_i ts v pos;cases v<;>first|(exact absurd h zzf)|skip
 rename_i es kt2 ED
 match es,h with
 |[],h=>exact absurd h zzf
 |[_],h=>exact absurd h zzf
 |_::_::_::_,h=>exact absurd h zzf
 |[a,b],h=>
 replace h:=bw h
 simp only [Bool.and_eq_true,beq_iff_eq,bne_iff_ne,ne_eq] at h;obtain⟨⟨x,px,y,py⟩,h0,⟨⟨⟨⟨⟨⟨⟨⟨h1,h2⟩,h3⟩,h4⟩,h5⟩,h6⟩,h7⟩,h8⟩,h9⟩,h10⟩:=h
 obtain⟨kt,pt,rfl⟩:=zC h0
 dsimp only at h1 h2 h4 h5 h6 h7;have ga:=iZ as S.C [a,b] h10
 intro pins s σ H D I hq;refine BZ S.C.calm (by rw [S.C.hN];exact S.C.nd) (by rw [S.C.hN];exact h1) (by rw [S.C.hN];exact h2) (of_decide_eq_true h3) (by rw [S.C.hsc];exact h6) (by rw [S.C.hsc];exact h7) ga (DV I.ok.kind (by rw [S.C.hsc];exact h6) (by rw [S.C.hsc];exact h7) h5 h4 h8) rfl pins s σ H D I ?_;obtain⟨G,env,sr,o⟩:=hq
 rw [bu] at o;refine GQ S sr o fun ps vs G1 H1 g t bD o1=>?_
 have rl:=t.rep h9
 match ps,rl,o1 with
 |[],_,o1=>exact o1.elim
 |[_],_,o1=>exact o1.elim
 |_::_::_::_,_,o1=>exact o1.elim
 |[p,q],rl,o1=>
  obtain⟨v,r,rfl,hv,rl⟩:=rl.uncons
  obtain⟨w,r2,rfl,hw,rl⟩:=rl.uncons
  have:=rl.length
  cases r2 with
  |cons _ _=>cases this
  |nil=>exact⟨v,w,rfl,o1 _ G1 H1 ((bD.set i hv).set j hw) bD.go⟩
end
end Ci
namespace Ci
open PySem L2
theorem mG:∀(cs:List Int) (all:List Int) (j b:Nat) (m:Int),all.drop j=cs→all[b]?=some m→b<j→(∀i c,all[i]?=some c→i<j→m≤c∧(i<b→m<c))→
 ∃m',all[dW cs j b m]?=some m'∧∀i c,all[i]?=some c→m'≤c∧(i<dW cs j b m→m'<c)
 |[],all,j,b,m,hd,hb,_,best=>by
  unfold dW;have hl:all.length≤j:=List.drop_eq_nil_iff.mp hd
  exact⟨m,hb,fun i c e=>best i c e (Nat.lt_of_lt_of_le (List.getElem?_eq_some_iff.mp e).1 hl)⟩
 |x::cs,all,j,b,m,hd,hb,hbj,best=>by
  have hx:all[j]?=some x:=by rw [←List.head?_drop,hd];rfl
  have Hg:all.drop (j+1)=cs:=by rw [←List.drop_drop,hd];rfl
  unfold dW;split
  ·rename_i bW;refine mG cs all (j+1) j x Hg hx (by omega) fun i c e hi=>?_
   by_cases h:i=j
   ·subst h;rw [hx] at e;cases e;exact⟨Int.le_refl _,fun z=>absurd z (Nat.lt_irrefl _)⟩
   ·have:=best i c e (by omega)
    exact⟨by omega,fun _=>by omega⟩
  ·rename_i bW;refine mG cs all (j+1) b m Hg hb (by omega) fun i c e hi=>?_
   by_cases h:i=j
   ·subst h;rw [hx] at e;cases e;exact⟨by omega,fun z=>by omega⟩
   ·exact best i c e (by omega)
theorem yJ{cs:List Int}{x:Nat}(h:xm cs=some x):∃m,cs[x]?=some m∧∀i c,cs[i]?=some c→m≤c∧(i<x→m<c):=by
 cases cs with
 |nil=>cases h
 |cons c cs=>
  cases h;refine mG cs (c::cs) 1 0 c rfl rfl (by omega) fun i d e hi=>?_
  have:i=0:=by omega
  subst this;cases e;exact⟨Int.le_refl _,fun z=>absurd z (Nat.not_lt_zero _)⟩
theorem mr{W:Wd}{G H:Hp}{K:PySem.W.Frag}(hK:W.K=K)(sg:ay G H):∀{ps:List PV} {us:List V} {cs:List Int},gG ps=some cs→ae W G ps us→cs.length=ps.length∧∀(i:Nat) v,us[i]?=some v→∃q r,v=V.ref q∧ez K H q (.int (cs.getD i 0)::r)
 |[],_,_,e,l=>by cases e;simp only [ae] at l;subst l;exact⟨rfl,fun i v h=>by simp at h⟩
 |p::ps,us,cs,e,l=>by
  obtain⟨u,ur,rfl,h1,h2⟩:=l.uncons
  unfold gG at e;split at e
  ·rename_i heq;cases heq
  ·rename_i heq;cases heq;obtain⟨r,hr,rfl⟩:=Option.map_eq_some_iff.mp e
   obtain⟨i1,i2⟩:=mr hK sg hr h2
   refine⟨by simp [i1],fun i v hv=>?_⟩
   cases i with
   |zero=>
    cases hv;simp only [Rep] at h1;obtain⟨q,ws,rfl,tq,lq⟩:=h1
    obtain⟨w,wr,rfl,k1,lq⟩:=lq.uncons
    simp only [Rep] at k1;subst k1;exact⟨q,wr,rfl,by rw [←hK];simpa using ay.tup sg tq.sq⟩
   |succ i=>simpa using i2 i v (by simpa using hv)
  ·cases e
section
variable{Γ:Pg}{X:Cx}{W:Wd}{F:bj}{N:List Str}{sc:Scope}{k:Nat}{H0:Hp}{E:XK}
theorem yM(S:dA Γ F W N sc k E X){m i:Nat}{x y:Str}{params:Arguments}{body:Expr}{scope:Scope}{yp q1 q2 q3 q4 q5 pos:Pos}(h1:N[m]?=some y)(h2:di sc y=true)(h3:N[i]?=some x)(h4:sc.names.lookup x=some .cell)(h5:f7 sc "min"=true)(h6:Γ.bs.contains "min"=true)(h7:Γ.hl=true)
 (h8:sR x params body scope=true):GS X W F H0 E (.minK m i) (.Assign [.Name y yp] (.Call (.Name "min" q1) [.Name x q2] [⟨some "key",.Lambda params body scope q3,q4⟩] q5) pos):=by
 obtain⟨a1,a2,a3⟩:=da S h1 h2
 obtain⟨p,ep,L,hfr,hox⟩:=xi h8
 have pe:PE X (.Call (.Name "min" q1) [.Name x q2] [⟨some "key",.Lambda params body scope q3,q4⟩] q5) (fun σ H Q=>∃G env ks ps cs ix kk,SR W H0 env σ G H∧env[i]?=some (.own (.dct ks ps))∧gG ps=some cs∧xm cs=some ix∧ks[ix]?=some kk∧∀v G' H',aE W G H G' H'→Rep W G' (ah kk) v→Q v H'):=by
  intro pins s σ H Q I hq;obtain⟨G,env,ks,ps,cs,ix,kk,sr,e1,e2,e3,e4,q⟩:=hq
  obtain⟨d,us,hs,n,k1,k2,k3,l⟩:=il sr e1
  obtain⟨c,dF⟩:=I.ok.has x (.inl (by show X.env.scope.names.lookup x=_;rw [S.C.hsc];exact h4))
  have A5:closureFor scope X.env=pure [(x,c)]:=by
   rw [gz fun y hy hf=>?_]
   ·show pure (bz X.env (aZ scope))=_
    rw [hfr];simp [bz,dF]
   ·have:y.1∈aZ scope:=by
     unfold aZ;rw [List.mem_reverse,List.mem_map];exact⟨y,List.mem_filter.mpr ⟨hy,by rw [hf];rfl⟩,rfl⟩
    rw [hfr] at this;rw [List.mem_singleton.mp this];exact⟨c,dF⟩
  refine wpAny_Call_Name_kw (dJ I (dR S.C h5) (S.C.bs _ (List.contains_iff_mem.mp h6)) (u:=.builtin "min") (by decide+kernel) ?_);refine PyProof.Rows.callWith_kw ?_;refine Calls.spliced_cons (bC (d7 (i:=i) (by rw [S.C.hN];exact h3) (.inr (.inl (by show X.env.scope.names.lookup x=_;rw [S.C.hsc];exact h4))) (cM hox).1 (cM hox).2.1 pins s σ H (fun v' H1=>v'=.ref d∧H1=H) I ⟨_,hs,rfl,rfl⟩) fun u s1 hu=>Calls.spliced_nil ?_)
  obtain⟨v',H1,I1,ru,rfl,rfl⟩:=hu
  cases ru;refine PyProof.Rows.kws_cons (bC (vN S.C h7 ep A5 pins s1 σ H1 (fun v2 H2=>∃f G2,v2=.ref f∧m5 X W params body scope [(x,c)] G H1 G2 H2 f) I1 ⟨G,sr.sub,sr.tab,fun f G2 H2 lm=>⟨f,G2,rfl,lm⟩⟩) fun u s2 hu=>PyProof.Rows.kws_nil ?_)
  obtain⟨v2,H2,I2,ru,f,G2,rfl,g2,c',oc,cF,t,eR,pm,fo,co,cd,cn⟩:=hu
  cases ru;have eX:=sr.grow g2
  obtain⟨d',us',qS,n',k1',k2',k3',l'⟩:=il eX e1
  rw [hs] at qS;cases qS;obtain⟨cl1,cl2⟩:=mr (K:=X.K) S.C.K eX.sub e2 l'
  have M:KM X σ H2 k d f (kz ks us') (fun i=>cs.getD i 0):=by
   refine⟨S.C.room,k1',⟨p,x,params,body,scope,_,c,c',oc,cF,t,pm,eR,i,L,dF,I.ok.cab x c (S.C.fl h7 x) dF,eX.sub _ _ fo,eX.sub _ _ co,cd,cn,fun u=>sU ep [u] rfl,by rw [S.C.hN];exact h3,hs,by rw [S.C.hsc];exact h4⟩,fun j kx v e=>?_⟩
   have:us'[j]?=some v:=by
    unfold kz at e;rw [List.getElem?_zip_eq_some] at e;exact e.2
   exact cl2 j v this
  obtain⟨mm,hm1,Bk⟩:=yJ e3
  have Iw:ix<ks.length:=(List.getElem?_eq_some_iff.mp e4).1
  have NV:cs.length=ks.length:=by rw [cl1,←l'.length,n']
  refine uf M (by rw [eN n'];omega) I2 fun j kx v b e hb best=>?_
  rw [eN n'] at best;have hj:j<ks.length:=by
   have:=(List.getElem?_eq_some_iff.mp e).1
   rw [eN n'] at this;exact this
  have ej:j=ix:=by
   have ca:∀a,a<cs.length→cs[a]?=some (cs.getD a 0):=fun a ha=>by simp [ha]
   have b1:=best ix Iw
   have b2:=Bk j _ (ca j (by omega))
   have em:mm=cs.getD ix 0:=by rw [ca ix (by omega)] at hm1;exact(Option.some.inj hm1).symm
   rw [em] at b2;rcases Nat.lt_trichotomy j ix with z|z|z
   ·have:=b2.2 z;have:=b1.1;omega
   ·exact z
   ·have:=b1.2 z;have:=b2.1;omega
  subst ej;have ek:kx=ki kk:=by
   have:=congrArg (fun l=>l[j]?) (m7 (us:=us') n')
   simp only [List.getElem?_map,e,e4,Option.map_some] at this;exact Option.some.inj this
  rw [ek,nY] at hb;obtain⟨G3,g3,l3⟩:=fU (W:=W) (vs:=[.ref b]) (nss:=[kk]) eX.sub (.cons ⟨b,rfl,hb⟩ .nil)
  obtain⟨w,r,ew,hw,_⟩:=l3.uncons
  cases ew;exact q _ _ _ (g2.trans g3) hw
 refine L2.PS.imp (iJ a1 a2 a3 pe rfl (.inl (S.fn y))) fun D σ H hq=>?_
 obtain⟨G,env,sr,o⟩:=hq
 rw [bu] at o;split at o
 ·rename_i ks ps hx;split at o
  ·rename_i cs hcs;split at o
   ·rename_i kk Ej;obtain⟨ix,Bl,hk2⟩:=Option.bind_eq_some_iff.mp Ej
    exact⟨G,env,ks,ps,cs,ix,kk,sr,hx,hcs,Bl,hk2,fun v G' H' g' rp=>o _ G' _ ((sr.grow g').set m rp) (sr.on g')⟩
   ·exact o.elim
  ·exact o.elim
 ·exact o.elim
end
end Ci
namespace Ci
open PySem L2
section
variable{Γ:Pg}{X:Cx}{W:Wd}{F:bj}{N:List Str}{sc:Scope}{k:Nat}{H0:Hp}{E:XK}
theorem Al{kk:Nat}{aU:List Nat}{tg:Tg}{it:I}{elt:Ci.E}:∀env q,aA F (.comp kk aU tg it elt) env=.ok q→∃xs,q=.lst xs:=fun env q e=>by
 rw [aA] at e;obtain⟨ps,_,e⟩:=Res.bind_ok e
 split at e
 ·obtain⟨ys,_,e⟩:=Res.bind_ok e
  cases e;exact⟨_,rfl⟩
 ·cases e
theorem u0{kk:Nat}{aU:List Nat}{tg:Tg}{it:I}{c elt:Ci.E}:∀env q,aA F (.compIf kk aU tg it c elt) env=.ok q→∃xs,q=.lst xs:=fun env q e=>by
 rw [aA] at e;obtain⟨ps,_,e⟩:=Res.bind_ok e
 split at e
 ·obtain⟨ys,_,e⟩:=Res.bind_ok e
  cases e;exact⟨_,rfl⟩
 ·cases e
theorem oH{e:Ci.E}(h:gZ e=true):∀env q,aA F e env=.ok q→∃xs,q=.lst xs:=by
 cases e<;>first|(exact absurd h zzf)|exact lst_is|exact Al|exact u0
theorem lK(S:dA Γ F W N sc k E X){i:Nat}{x:Str}{xp pos:Pos}(hx:N[i]?=some x)(yN:di sc x=true):∀(e:Ci.E) (p:Expr),gZ e=true→aS Γ N sc e p=true→PS X (.Assign [.Name x xp] p pos) (EH X W F i e)
 |.lst as,p,_,h=>by
  cases p<;>first|(exact absurd h zzf)|skip
  replace h:=aC h
  try simp only [Bool.and_eq_true,decide_eq_true_eq] at h
  exact mI S hx yN (wa h.1.1 h.1.2 (iZ as S.C _ h.2)) rfl
 |.comp kk aU tg it elt,p,_,h=>by
  cases p<;>first|(exact absurd h zzf)|skip
  rename_i dm gens scope ppos
  match gens,h with
  |[⟨bX,eG,[],asy⟩],h=>
   replace h:=aC h
   simp only [Bool.and_eq_true] at h;obtain⟨⟨⟨⟨⟨⟨h1,h2⟩,h3⟩,h4⟩,h5⟩,h6⟩,gA⟩:=h
   have gA:=of_decide_eq_true gA
   subst gA;exact x9 S hx yN (hJ h1) h2 h3 (xh it S.C bX eG h4) (ij h4 _) h5 fun Y CY=>(bb elt CY dm h6).ge
  |[],h=>exact absurd h zzf
  |⟨_,_,[],_⟩::_::_,h=>exact absurd h zzf
  |⟨_,_,[_],_⟩::_::_,h=>exact absurd h zzf
  |⟨_,_,_::_::_,_⟩::_::_,h=>exact absurd h zzf
  |[⟨_,_,_::_,_⟩],h=>exact absurd h zzf
 |.compIf kk aU tg it c elt,p,_,h=>by
  cases p<;>first|(exact absurd h zzf)|skip
  rename_i dm gens scope ppos
  match gens,h with
  |[⟨bX,eG,[pc],asy⟩],h=>
   replace h:=aC h
   simp only [Bool.and_eq_true] at h;obtain⟨⟨⟨⟨⟨⟨⟨⟨h0,h1⟩,h2⟩,h3⟩,h4⟩,h5⟩,h6⟩,h7⟩,gA⟩:=h
   have gA:=of_decide_eq_true gA
   subst gA;exact qL S hx yN (hJ h1) h2 h3 (xh it S.C bX eG h4) (ij h4 _) h5 (fun Y CY=>(bb c CY pc h6).gt h0) fun Y CY=>(bb elt CY dm h7).ge
  |[],h=>exact absurd h zzf
  |⟨_,_,[],_⟩::_::_,h=>exact absurd h zzf
  |⟨_,_,[_],_⟩::_::_,h=>exact absurd h zzf
  |⟨_,_,_::_::_,_⟩::_::_,h=>exact absurd h zzf
  |[⟨_,_,[],_⟩],h=>exact absurd h zzf
  |[⟨_,_,_::_::_,_⟩],h=>exact absurd h zzf
 |.var _,_,z,_=>nomatch z
 |.tmp _,_,z,_=>nomatch z
 |.cst _,_,z,_=>nomatch z
 |.glob _ _,_,z,_=>nomatch z
 |.call _ _,_,z,_=>nomatch z
 |.blt _ _,_,z,_=>nomatch z
 |.ty _ _,_,z,_=>nomatch z
 |.bin _ _ _,_,z,_=>nomatch z
 |.cmp _ _ _,_,z,_=>nomatch z
 |.ch _ _ _ _ _,_,z,_=>nomatch z
 |.not _,_,z,_=>nomatch z
 |.neg _,_,z,_=>nomatch z
 |.and _ _,_,z,_=>nomatch z
 |.or _ _,_,z,_=>nomatch z
 |.ite _ _ _,_,z,_=>nomatch z
 |.tup _,_,z,_=>nomatch z
 |.sub _ _,_,z,_=>nomatch z
 |.slice _ _ _,_,z,_=>nomatch z
 |.lrev _,_,z,_=>nomatch z
theorem t9{e:Ci.E}{p:Expr}(h:aS Γ N sc e p=true)(hf:gZ e=false):mK p=true:=by
 cases p<;>first|rfl|(cases e<;>first|(exact absurd h zzf)|(rename_i q;cases q<;>exact absurd h zzf)|(cases hf;done))
theorem vd(S:dA Γ F W N sc k E X){i:Nat}{x:Str}{e:Ci.E}{p:Expr}{xp pos:Pos}(h:N[i]?=some x)(hl:di sc x=true)(dc:eV e=true)(hc:aS Γ N sc e p=true):GS X W F H0 E (.set i e) (.Assign [.Name x xp] p pos):=by
 cases hf:gZ e with
 |true=>exact y7 S (oH hf) dc (lK S h hl e p hf hc)
 |false=>exact BE S h hl dc (bb e S.C p hc).ge (nE (t9 hc hf))
theorem vz(S:dA Γ F W N sc k E X)(e:Ci.E)(p:Stmt)(h:dO Γ N sc (.expr e) p=true):GS X W F H0 E (.expr e) p:=by
 cases p<;>first|(exact absurd h zzf)|skip
 replace h:=aC h
 try simp only [Bool.and_eq_true] at h
 exact zj S (bb e S.C _ h.2).ge h.1
theorem zH(S:dA Γ F W N sc k E X)(i:Nat)(e:Ci.E)(p:Stmt)(h:dO Γ N sc (.set i e) p=true):GS X W F H0 E (.set i e) p:=by
 cases p<;>first|(exact absurd h zzf)|skip
 replace h:=bw h
 simp only [Option.any_eq_true,Bool.and_eq_true,beq_iff_eq] at h;obtain⟨x,h0,h1⟩:=h
 obtain⟨xp,rfl⟩:=iG h0
 exact vd S h1.1.1.1 h1.1.1.2 h1.1.2 h1.2
theorem Ap(S:dA Γ F W N sc k E X)(i:Nat)(e:Ci.E)(p:Stmt)(h:dO Γ N sc (.own i e) p=true):GS X W F H0 E (.own i e) p:=by
 cases p<;>first|(exact absurd h zzf)|skip
 replace h:=bw h
 simp only [Option.any_eq_true,Bool.and_eq_true,beq_iff_eq] at h;obtain⟨x,h0,h⟩:=h
 obtain⟨xp,rfl⟩:=iG h0
 exact AJ S h.1.1.1 (oH h.1.2) (lK S h.1.1.1 h.1.1.2 e _ h.1.2 h.2)
theorem yI(S:dA Γ F W N sc k E X)(i:Nat)(p:Stmt)(h:dO Γ N sc (.frz i) p=true):GS X W F H0 E (.frz i) p:=by
 cases p<;>exact absurd h zzf
theorem yS(S:dA Γ F W N sc k E X)(i:Nat)(e:Ci.E)(p:Stmt)(h:dO Γ N sc (.app i e) p=true):GS X W F H0 E (.app i e) p:=by
 cases p<;>first|(exact absurd h zzf)|skip
 replace h:=bw h
 simp only [Option.any_eq_true,Bool.and_eq_true,beq_iff_eq] at h;obtain⟨⟨x,m,args⟩,h0,⟨⟨⟨⟨h1,h2⟩,h3⟩,h4⟩,h5⟩,q,h6,h7⟩:=h
 obtain⟨np,apos,br,rfl,hl⟩:=mZ h0
 cases mV h6;cases h4;exact DX S h1 h2 h3 hl h5 (bb e S.C q h7).ge (notStar h7)
theorem xA(S:dA Γ F W N sc k E X)(i:Nat)(e:Ci.E)(p:Stmt)(h:dO Γ N sc (.extd i e) p=true):GS X W F H0 E (.extd i e) p:=by
 cases p<;>first|(exact absurd h zzf)|skip
 replace h:=bw h
 simp only [Option.any_eq_true,Bool.and_eq_true,beq_iff_eq] at h;obtain⟨⟨x,m,args⟩,h0,⟨⟨⟨h1,h2⟩,h3⟩,h4⟩,q,h6,h7⟩:=h
 obtain⟨np,apos,br,rfl,hl⟩:=mZ h0
 cases mV h6;cases h4;exact zP S h1 h2 h3 hl (bb e S.C q h7).ge (notStar h7)
theorem zW(S:dA Γ F W N sc k E X)(i:Nat)(kk e:Ci.E)(p:Stmt)(h:dO Γ N sc (.put i kk e) p=true):GS X W F H0 E (.put i kk e) p:=by
 cases p<;>first|(exact absurd h zzf)|skip
 replace h:=bw h
 simp only [Option.any_eq_true,Bool.and_eq_true,beq_iff_eq] at h;obtain⟨⟨x,pk⟩,h0,⟨⟨⟨⟨h1,h2⟩,h3⟩,h5⟩,h6⟩,h7⟩:=h
 obtain⟨np,sp,rfl⟩:=vD h0
 exact CM S h1 h2 h3 h5 h6 (bb kk S.C pk h6).ge (bb e S.C _ h7).ge
theorem vC(S:dA Γ F W N sc k E X)(i:Nat)(p:Stmt)(h:dO Γ N sc (.dnew i) p=true):GS X W F H0 E (.dnew i) p:=by
 cases p<;>first|(exact absurd h zzf)|skip
 rename_i ts v pos;cases v<;>first|(exact absurd h zzf)|skip
 rename_i ks vs dp;cases ks<;>first|(exact absurd h zzf)|skip
 cases vs<;>first|(exact absurd h zzf)|skip
 replace h:=bw h
 simp only [Option.any_eq_true,Bool.and_eq_true,beq_iff_eq] at h;obtain⟨x,h0,h1,h2⟩:=h
 obtain⟨yp,rfl⟩:=iG h0
 exact AD S h1 h2
theorem uz(S:dA Γ F W N sc k E X)(i n:Nat)(b:Bool)(p:Stmt)(h:dO Γ N sc (.dnew1 i n b) p=true):GS X W F H0 E (.dnew1 i n b) p:=by
 cases p<;>first|(exact absurd h zzf)|skip
 rename_i ts v pos;cases v<;>first|(exact absurd h zzf)|skip
 rename_i ks vs dp;cases ks with
 |nil=>exact absurd h zzf
 |cons ke ks=>
  cases ke with
  |none=>exact absurd h zzf
  |some ke=>
   cases ks with
   |cons _ _=>exact absurd h zzf
   |nil=>
    cases vs with
    |nil=>exact absurd h zzf
    |cons ve vs=>
     cases ve with
     |Constant c j cp=>
      cases c with
      |bool c=>
       cases vs with
       |cons _ _=>exact absurd h zzf
       |nil=>
        replace h:=bw h
        simp only [Option.any_eq_true,Bool.and_eq_true,beq_iff_eq] at h;obtain⟨x,h0,z,hz,⟨⟨⟨⟨h1,h2⟩,h3⟩,h4⟩,h5⟩,h6⟩:=h
        obtain⟨yp,rfl⟩:=iG h0
        obtain⟨zp,rfl⟩:=oe hz
        subst h6;exact xl S h1 h2 h3 h4 h5
      |_=>exact absurd h zzf
     |_=>exact absurd h zzf
theorem rK(S:dA Γ F W N sc k E X)(i j n:Nat)(p:Stmt)(h:dO Γ N sc (.putPop i j n) p=true):GS X W F H0 E (.putPop i j n) p:=by
 cases p<;>first|(exact absurd h zzf)|skip
 replace h:=bw h
 simp only [Option.any_eq_true,Bool.and_eq_true,beq_iff_eq] at h;obtain⟨⟨x,pk⟩,h0,z,hz,⟨⟨⟨⟨⟨h1,h2⟩,h3⟩,h4⟩,h5⟩,h6⟩,⟨y,m,args⟩,h7,h8,e,he,z2,HM,⟨⟨h9,h10⟩,h11⟩,Hq⟩:=h
 obtain⟨np,sp,rfl⟩:=vD h0
 obtain⟨zp,rfl⟩:=oe hz
 obtain⟨yp,apos,br,rfl,hl⟩:=mZ h7
 cases h8;cases mV he;obtain⟨Ln,rfl⟩:=oe HM
 subst h9;exact tO S h1 h2 h3 h4 h5 h6 h10 h11 Hq hl
theorem xa(S:dA Γ F W N sc k E X)(m i:Nat)(p:Stmt)(h:dO Γ N sc (.minK m i) p=true):GS X W F H0 E (.minK m i) p:=by
 cases p<;>first|(exact absurd h zzf)|skip
 replace h:=bw h
 simp only [Option.any_eq_true,Bool.and_eq_true,beq_iff_eq] at h;obtain⟨y,hy,c,hc,⟨⟨⟨⟨⟨⟨h1,h2⟩,h3⟩,h4⟩,h5⟩,h6⟩,h7⟩,h8⟩:=h
 obtain⟨yp,rfl⟩:=iG hy
 obtain⟨q1,q2,q3,q4,q5,rfl⟩:=CC hc
 exact yM S h1 h2 h3 h4 h5 h6 h7 h8
theorem Aw(S:dA Γ F W N sc k E X)(j i:Nat)(p:Stmt)(h:dO Γ N sc (.pop j i) p=true):GS X W F H0 E (.pop j i) p:=by
 cases p<;>first|(exact absurd h zzf)|skip
 replace h:=bw h
 simp only [Option.any_eq_true,Bool.and_eq_true,beq_iff_eq] at h;obtain⟨y,hy,⟨x,m,args⟩,h0,⟨⟨⟨⟨⟨h1,h2⟩,h3⟩,h4⟩,h5⟩,h6⟩,h7⟩:=h
 obtain⟨yp,rfl⟩:=iG hy
 obtain⟨np,apos,br,rfl,hl⟩:=mZ h0
 cases List.isEmpty_iff.mp h5;cases h4;exact Ee S h1 h2 h3 hl h6 h7
theorem AW(S:dA Γ F W N sc k E X)(e:Ci.E)(p:Stmt)(h:dO Γ N sc (.ret e) p=true):GS X W F H0 E (.ret e) p:=by
 cases p<;>first|(exact absurd h zzf)|skip
 rename_i v pos;cases v with
 |none=>exact absurd h zzf
 |some v=>
  replace h:=aC h
  try simp only [Bool.and_eq_true] at h
  exact Dp S h.1 (bb e S.C v h.2).ge
theorem ui(S:dA Γ F W N sc k E X)(c m:Str)(p:Stmt)(h:dO Γ N sc (.raise c m) p=true):GS X W F H0 E (.raise c m) p:=by
 cases p<;>first|(exact absurd h zzf)|skip
 replace h:=aC h
 simp only [Option.any_eq_true,Bool.and_eq_true,beq_iff_eq] at h;obtain⟨hn,⟨x,z⟩,h0,⟨⟨⟨h1,h2⟩,h3⟩,h4⟩,h5⟩:=h
 obtain⟨np,j,zp,cp,rfl⟩:=D4 h0
 cases h1;cases h2;rename_i fr pos;cases Option.isNone_iff_eq_none.mp hn;exact v3 S h3 h4 h5
theorem AG{c:Ci.E}{a b:Ss}{p:Stmt}(h:dO Γ N sc (.ite c a b) p=true):∃q pa pb pos,p=.If q pa pb pos∧dQ c=true∧aS Γ N sc c q=true∧cQ Γ N sc a pa=true∧cQ Γ N sc b pb=true:=by
 cases p<;>first|(exact absurd h zzf)|skip
 replace h:=aC h
 try simp only [Bool.and_eq_true] at h
 exact⟨_,_,_,_,rfl,h.1.1.1,h.1.1.2,h.1.2,h.2⟩
theorem Ar{tg:Tg}{it:I}{b:Ss}{p:Stmt}(h:dO Γ N sc (.for_ tg it b) p=true):∃bX eG pb pos,p=.For bX eG pb [] pos∧fK N sc (fun _=>true) tg bX=true∧yC it=true∧uT Γ N sc bX it eG=true∧cQ Γ N sc b pb=true:=by
 cases p<;>first|(exact absurd h zzf)|skip
 replace h:=aC h
 try simp only [Bool.and_eq_true] at h
 cases List.isEmpty_iff.mp h.1.1.1.1;exact⟨_,_,_,_,rfl,h.1.1.1.2,h.1.1.2,h.1.2,h.2⟩
theorem AB{c:Ci.E}{b:Ss}{p:Stmt}(h:dO Γ N sc (.whl c b) p=true):∃q pb pos,p=.While q pb [] pos∧dQ c=true∧aS Γ N sc c q=true∧cQ Γ N sc b pb=true:=by
 cases p<;>first|(exact absurd h zzf)|skip
 replace h:=aC h
 try simp only [Bool.and_eq_true] at h
 cases List.isEmpty_iff.mp h.1.1.1;exact⟨_,_,_,rfl,h.1.1.2,h.1.2,h.2⟩
theorem zg{ps:List Stmt}(h:cQ Γ N sc .nil ps=true):ps=[]:=by
 cases ps with
 |nil=>rfl
 |cons _ _=>exact absurd h zzf
theorem vB{s:Ci.S}{ss:Ss}{ps:List Stmt}(h:cQ Γ N sc (.cons s ss) ps=true):(∃i,s=.frz i∧cQ Γ N sc ss ps=true)∨∃q qs,ps=q::qs∧dO Γ N sc s q=true∧cQ Γ N sc ss qs=true:=by
 by_cases hz:∃i,s=.frz i
 ·obtain⟨i,rfl⟩:=hz
  exact .inl ⟨i,rfl,h⟩
 ·cases ps with
  |nil=>cases s<;>first|(exact absurd ⟨_,rfl⟩ hz)|(exact absurd h zzf)
  |cons p ps=>
   have h2:(dO Γ N sc s p&&cQ Γ N sc ss ps)=true:=by
    cases s<;>first|(exact absurd ⟨_,rfl⟩ hz)|(exact h)
   rw [Bool.and_eq_true] at h2;exact .inr ⟨p,ps,rfl,h2.1,h2.2⟩
mutual
theorem Jk(S:dA Γ F W N sc k E X):∀(s:Ci.S) (p:Stmt),dO Γ N sc s p=true→GS X W F H0 E s p
 |.expr e,p,h=>vz S e p h
 |.set i e,p,h=>zH S i e p h
 |.own i e,p,h=>Ap S i e p h
 |.frz i,p,h=>yI S i p h
 |.app i e,p,h=>yS S i e p h
 |.extd i e,p,h=>xA S i e p h
 |.put i kk e,p,h=>zW S i kk e p h
 |.pop j i,p,h=>Aw S j i p h
 |.dnew i,p,h=>vC S i p h
 |.dnew1 i n b,p,h=>uz S i n b p h
 |.putPop i j n,p,h=>rK S i j n p h
 |.minK m i,p,h=>xa S m i p h
 |.par i j as,p,h=>Ai S i j as p h
 |.ret e,p,h=>AW S e p h
 |.ite c a b,p,h=>by
  obtain⟨q,pa,pb,pos,rfl,h1,h2,h3,h4⟩:=AG h
  exact DQ S ((bb c S.C _ h2).gt h1) (jv S a _ h3) (jv S b _ h4)
 |.for_ tg it b,p,h=>by
  obtain⟨bX,eG,pb,pos,rfl,h1,h2,h3,h4⟩:=Ar h
  exact BO S h1 h2 (xh it S.C bX eG h3) (ij h3 _) (jv S b _ h4)
 |.whl c b,p,h=>by
  obtain⟨q,pb,pos,rfl,h1,h2,h3⟩:=AB h
  exact Ck S ((bb c S.C _ h2).gt h1) (jv S b _ h3)
 |.raise c m,p,h=>ui S c m p h
theorem jv(S:dA Γ F W N sc k E X):∀(ss:Ss) (ps:List Stmt),cQ Γ N sc ss ps=true→ym X W F H0 E ss ps
 |.nil,ps,h=>by
  cases zg h;exact yB
 |.cons s ss,ps,h=>by
  rcases vB h with⟨i,e,h2⟩|⟨q,qs,e,h1,h2⟩
  ·have:=ze (i:=i) (jv S ss ps h2)
   rw [←e] at this;exact this
  ·rw [e];exact w5 (Jk S s q h1) (jv S ss qs h2)
end
end
end Ci
namespace L2
open PySem PySem.Spec PyProof.Rows
theorem wc{K:PySem.W.Frag}{C:Addr}{T:String}{b:Bool}(h1:PySem.W.kitMeta T=true)(h3:PySem.W.subIn K (.ref C) (.type T)=some b):PySem.W.kitOne K (.ref C) (.type T)=some b:=by
 unfold PySem.W.kitOne;split
 ·rename_i e;cases beq_iff_eq.mp e
 ·show(if PySem.W.kitMeta T=true then PySem.W.subIn K (.ref C) (.type T) else none)=some b
  rw [if_pos h1];exact h3
theorem Eb{K:PySem.W.Frag}{h:Heap}{mg:Str→Option Value}{x:Str}{C:Addr}{KP:List Value}{newId:String}(X:K.In h)(hm:mg x=some (.ref C))(q:PySem.W.excIn K C KP newId=true):OwnCls x C KP newId mg h:=by
 constructor
 ·exact hm
 ·unfold PySem.W.excIn at q;split at q
  ·rename_i dd cd sl ho;split at q
   ·rename_i C1 bm1 k0 k1 k2 k3 n1 k5 hm1 IV;simp only [Bool.and_eq_true,beq_iff_eq,Bool.not_eq_true'] at q;obtain⟨⟨⟨⟨⟨q1,q2⟩,q3⟩,q4⟩,q5⟩,q6⟩:=q
    subst q1 q2;obtain⟨nm,bs,mro,ns,qn,hd,sn,sub,ab,col,del⟩:=cd
    have Bk:mro=.ref C1::bm1:=hm1
    have hd2:del=false:=q3
    have K1:PySem.W.nsOkIn K ns=true:=q5
    have Mb:PySem.W.nsIn K ns "__init__"=some none:=q6
    subst Bk hd2;obtain⟨ls⟩:=sl
    have yk:ls=[k0,k1,k2,k3,some (.builtin n1),k5]:=IV
    subst yk;exact⟨bm1,ns,nm,qn,bs,hd,sn,sub,ab,col,dd,k0,k1,k2,k3,k5,_,X _ _ ho,.of_isNs (PySem.W.isNs_of_in X K1),PySem.W.nsMap_none_of_in X K1 Mb,PySem.W.tail_of_in X q4⟩
   ·cases q
  ·cases q
end L2
namespace Ci
open PySem L2
abbrev vT:List Value:=[.type "ValueError",.type "Exception",.type "BaseException",.type "object"]
structure qP(K:PySem.W.Frag)(mg:Str→Option Value)(Γ:Pg)(W:Wd):Prop where
 hK:W.K=K
 hm:W.mg=mg
 gs:∀q∈Γ.gs,∃u v,mg q.1=some u∧RelV v u∧∀G,Rep W G q.2 v
 bs:∀g∈Γ.bs,mg g=none
 nov:Γ.cs.contains "ValueError"=false
 cls:∀c∈Γ.cs,∃C,mg c=some (.ref C)
 xc:∀d∈W.xs,∀D,mg d=some (.ref D)→BS K D∧(∀c∈Γ.cs,∀C,mg c=some (.ref C)→PySem.W.kitOne K (.ref D) (.ref C)=some (c==d||c=="FloorError"))∧PySem.W.kitOne K (.ref D) (.type "ValueError")=some true
 xs:∀c,Γ.rs.contains c=true→c∈W.xs
 rm:∀c,Γ.rs.contains c=true→∃C,mg c=some (.ref C)∧PySem.W.excIn K C vT "ValueError.__new__"=true
 exm:Γ.cs.contains "FloorError"=true→∀c D,c∈W.xs→mg c=some (.ref D)→∀T,mg "FloorError"=some (.ref T)→PySem.W.exmOne K (.ref D) (.ref T)=some true
 bm:W.ts≠[]→∃bm o,mg "__builtins__"=some (.ref bm)∧bm≠builtinsNs∧bm≠mainGlobals∧K.lookup bm=some o∧o.cls=.type "module"∧o.dict=some builtinsNs∧o.data=.plain
structure Row where
 f:Str
 h:Str
 d:Def
 st:Stmt
 hl:Bool:=false
abbrev cN:Type:=List Row
def lA(l:cN):List Str:=l.filterMap fun r=>if r.d.clo.isNone then some r.f else none
def tH(l:cN):List Hs:=l.filterMap fun r=>r.d.clo.map fun q=>⟨r.f,r.h,q.1,q.2,r.d.np⟩
def tab(l:cN):List (Str×Def):=l.map fun q=>(q.f,q.d)
noncomputable def Pg.at(Γ:Pg)(l:cN)(hl:Bool):Pg:={Γ with fs:=lA l,hs:=tH l,hl:=hl}
structure bo(Γ:Pg)(n:Str)(d:Def)(st:Stmt):Prop where
 sc:jj d.N (d.N.take d.np) (defScope st)
 np:d.np≤d.N.length
 bind:∀(kV doc pm:Value) (an:Option Addr) (e9 ct:Value) (us:List Value),us.length=(d.N.take d.np).length→bindArgs (PySem.W.fnOf n n (defArgs st) (defBody st) (defScope st) .none kV doc pm an e9 ct) ⟨us,[]⟩=pure ((d.N.take d.np).zip us)
 chk:cQ Γ d.N (defScope st) d.body (defBody st)=true
theorem stM{Γ:Pg}{n:Str}{d:Def}{st:Stmt}(b:∀(kV doc pm:Value) (an:Option Addr) (e9 ct:Value) (us:List Value),us.length=(d.N.take d.np).length→bindArgs (PySem.W.fnOf n n (defArgs st) (defBody st) (defScope st) .none kV doc pm an e9 ct) ⟨us,[]⟩=pure ((d.N.take d.np).zip us))
 (a1:(defScope st).kind=.function:=by rfl) (a2:(defScope st).isCoroutine=false:=by rfl) (a3:(defScope st).isGenerator=false:=by rfl) (a4:d.N.Nodup:=by decide+kernel) (a5:d.N.take (d.N.take d.np).length=d.N.take d.np:=by rfl)
 (a6:∀x∈d.N.take d.np,(defScope st).names.lookup x=some .local∨(defScope st).names.lookup x=some .cell:=by decide+kernel) (a7:∀y∈(defScope st).names,y.2≠.free:=by decide+kernel) (a8:d.np≤d.N.length:=by decide+kernel) (a9:cQ Γ d.N (defScope st) d.body (defBody st)=true:=by decide+kernel):bo Γ n d st:=⟨⟨a1,a2,a3,a4,a5,a6,a7⟩,a8,b,a9⟩
def CodeK(K:PySem.W.Frag)(c P:Addr):Prop:=∃o vs file tf flags tg HU text tt,K.lookup c=some o∧o.cls=.type "code"∧o.data=.fields vs∧vs[11]?=some (.ref P)∧vs.getD 11 .none=.ref P∧vs.getD 18 .none=.str file tf∧
 vs.getD 7 .none=.int flags tg∧vs.getD 9 .none=.bool HU∧vs.getD 10 .none=.int text tt∧c≠P
def lamQ(n:Str):Str:=(n++".<locals>.")++"<lambda>"
def EntK(K:PySem.W.Frag)(ts:List (Addr×Str))(hl:Bool)(n:Str)(st:Stmt):Prop:=∃(f:Addr) (oc:Value) (od:Option Addr) (kV doc pm:Value) (an:Option Addr) (e9 ct:Value) (qB:Array (Option Value)),
 PySem.W.nsIn K mainGlobals n=some (some (.ref f))∧K.lookup f=some ⟨oc,od,.func (PySem.W.fnOf n n (defArgs st) (defBody st) (defScope st) .none kV doc pm an e9 ct),qB⟩∧PySem.W.codeIn K e9 n=true∧PySem.W.keepIn K (.ref f)=true∧
 (hl=true→∃c P,e9=.ref c∧CodeK K c P∧(P,lamQ n)∈ts∧∀q',(P,q')∈ts→q'=lamQ n)
theorem entK{K:PySem.W.Frag}{ts:List (Addr×Str)}{n:Str}{st:Stmt}{f:Addr}{oc:Value}{od:Option Addr}{kV doc pm:Value}{an:Option Addr}{e9 ct:Value}{qB:Array (Option Value)}(a:PySem.W.nsIn K mainGlobals n=some (some (.ref f)))
 (l:K.lookup f=some ⟨oc,od,.func (PySem.W.fnOf n n (defArgs st) (defBody st) (defScope st) .none kV doc pm an e9 ct),qB⟩) (c:PySem.W.codeIn K e9 n=true) (k:PySem.W.keepIn K (.ref f)=true):EntK K ts false n st:=⟨f,oc,od,kV,doc,pm,an,e9,ct,qB,a,l,c,k,(fun z=>nomatch z)⟩
structure ny(P:Program)(w:World)(K:PySem.W.Frag)(mg:Str→Option Value)(base:Heap)(W:Wd)(F:bj)(k:Nat)(f:Str):Prop where
 ex:∃fa fd ps,fj P w K mg base (dC P w) k fa fd ps (vn W F f ps.length none)∧mg f=some (.ref fa)∧PySem.W.keepIn K (.ref fa)=true∧Binds K fd ps []∧∀as,F f as≠.bad→as.length=ps.length
structure Ec(P:Program)(w:World)(K:PySem.W.Frag)(mg:Str→Option Value)(base:Heap)(W:Wd)(F:bj)(k:Nat)(q:Hs):Prop where
 ex:∃fa fd ps,fj P w K mg base (dC P w) k fa fd ps (vn W F q.f ps.length (some (q.g,q.idx)))∧mg q.h=some (.ref fa)∧PySem.W.keepIn K (.ref fa)=true∧Binds K fd ps []∧ps.length=q.np
section
variable{P:Program}{w:World}{K:PySem.W.Frag}{mg:Str→Option Value}{base:Heap}{Γ:Pg}{W:Wd}
theorem uj{c p:Addr}(KB:K.In base)(h:CodeK K c p):PySem.W.CodeHd base c p:=by
 obtain⟨o,vs,file,tf,flags,tg,HU,text,tt,e,r⟩:=h
 exact⟨o,vs,file,tf,flags,tg,HU,text,tt,KB _ _ e,r⟩
theorem Ca(M:qP K mg Γ W)(KB:K.In base){F:bj}{k:Nat}{N ps:List Str}{qual:Str}{sc:Scope}(S:jj N ps sc)(hF:∀f,Γ.fs.contains f=true→ny P w K mg base W F k f)(hH:∀q∈Γ.hs,Ec P w K mg base W F k q)(hA:∀g as,F g as≠.bad→Γ.fs.contains g=true∨gy g=true){f:Addr}{cd:Value}
 (hL:Γ.hl=true→∃c p,cd=.ref c∧CodeK K c p∧(p,lamQ qual)∈W.ts∧∀q',(p,q')∈W.ts→q'=lamQ qual) {A:Around} {outer:List Env} {s:Shared} {H:Hp} {E:XK} (hr:df (k+1) (A.deeper (PyProof.Rows.envOfC qual sc s.heap.objs.size f cd))):
 dA Γ F W N sc k E (dk (dC P w) P w K mg base N qual sc f cd A outer s H E) where
 C:=⟨rfl,rfl,rfl,S.nd,M.hK,M.hm,M.gs,M.bs,hr,fun g hg=>⟨(hF g hg).ex⟩,M.nov,M.cls,M.xc,fun q hq=>⟨(hH q hq).ex⟩,hA,fun z=>by
  obtain⟨c,p,e1,e2,e3,e4⟩:=hL z
  exact⟨c,p,e1,uj KB e2,e3,e4⟩,fun z=>by
  obtain⟨c,p,e1,e2,e3,e4⟩:=hL z
  obtain⟨bm,o,b1,b2,b3,b4,b5⟩:=M.bm (fun y=>by rw [y] at e3;cases e3)
  exact⟨bm,o,b1,b2,b3,KB _ _ b4,b5⟩,fun _ _=>rfl⟩
 fn:=fun _=>rfl
 own:=PassesOwn.leaving
 pass:=GN
 kind:=S.kind
 stk:=rfl
 frame:=rfl
 xs:=M.xs
 rm:=fun c hc=>let⟨C,h,_⟩:=M.rm c hc;⟨C,h⟩
 rz:=fun c z j np zp cp pos h1 h2 h3=>by
  obtain⟨C,hC,hx⟩:=M.rm c h1
  have hg:Gl (dk (dC P w) P w K mg base N qual sc f cd A outer s H E) c:=beq_iff_eq.mp h2
  refine L2.PS.imp (x8 hg (Eb KB hC hx) PySem.F.excBase_ValueError (bO wG dg) rfl rfl (cM h3).1) fun D σ H1 h=>⟨(show 1≤sizeLine by decide),fun e he=>h C e hC he⟩
 exm:=M.exm
theorem pT{H G:Hp}{N:List Str}{as:List PV}{vs:List V}(sg:ay G H)(tb:cb W G H)(l:ae W G as vs)(hn:as.length≤N.length):SR W H (as.map .val++List.replicate (N.length-as.length) .no) (start N vs) G H:=by
 have hl:=l.length
 unfold L2.start;refine⟨by simp;omega,sg,gj.refl _,fun i s e=>?_,fun i j p q a e1 _ _ _=>?_,tb,tb⟩
 ·by_cases hi:i<as.length
  ·rw [List.getElem?_append_left (by simpa using hi),List.getElem?_map] at e;obtain⟨p,hp,rfl⟩:=Option.map_eq_some_iff.mp e
   obtain⟨v,hv,rv⟩:=l.getP hp
   exact⟨some v,by rw [List.getElem?_append_left (by simpa using (show i<vs.length by omega)),List.getElem?_map,hv];rfl,v,rfl,rv⟩
  ·rw [List.getElem?_append_right (by simpa using hi),List.getElem?_replicate] at e;split at e
   ·rename_i h2;cases e;rw [List.length_map] at h2;exact⟨none,by rw [List.getElem?_append_right (by simp;omega),List.getElem?_replicate,if_pos (by rw [List.length_map];omega)],trivial⟩
   ·cases e
 ·exfalso
  by_cases hi:i<as.length
  ·rw [List.getElem?_append_left (by simpa using hi),List.getElem?_map] at e1;obtain⟨p,hp,e⟩:=Option.map_eq_some_iff.mp e1
   cases e
  ·rw [List.getElem?_append_right (by simpa using hi),List.getElem?_replicate] at e1;split at e1<;>cases e1
theorem SR.putFn{H0 G H:Hp}{env:Sl}{σ:St}{g:Str}{idx:List Nat}{cy:List PV}{v:V}(i:Nat)(r:SR W H0 env σ G H)(h:nQ W G g idx cy v):SR W H0 (env.set i (.fn g idx cy)) (σ.set i (some v)) G H where
 len:=by simpa using r.len
 sub:=r.sub
 base:=r.base
 tab:=r.tab
 tab0:=r.tab0
 slot:=fun j s e=>by
  by_cases hj:i=j
  ·subst hj;have bW:i<env.length:=by
    have:=(List.getElem?_eq_some_iff.mp e).1
    simpa using this
   rw [List.getElem?_set_self bW] at e;cases e;exact⟨some v,List.getElem?_set_self (by rw [←r.len];exact bW),v,rfl,h⟩
  ·rw [List.getElem?_set_ne hj] at e;obtain⟨o,h1,h2⟩:=r.slot j s e
   exact⟨o,by rw [List.getElem?_set_ne hj];exact h1,h2⟩
 apart:=fun a b q q' ad e1 e2 e3 e4=>by
  have ne:∀{c:Nat} {q:PV},(env.set i (.fn g idx cy))[c]?=some (.own q)→i≠c:=fun{c q} e z=>by
   subst z;have bW:i<env.length:=by
    have:=(List.getElem?_eq_some_iff.mp e).1
    simpa using this
   rw [List.getElem?_set_self bW] at e;cases e
  have n1:=ne e1
  have n2:=ne e2
  rw [List.getElem?_set_ne n1] at e1 e3;rw [List.getElem?_set_ne n2] at e2 e4;exact r.apart a b q q' ad e1 e2 e3 e4
theorem sH{α:Type}{l r:List α}{a b:α}:(l++a::r).set l.length b=l++b::r:=by
 rw [List.set_append_right _ _ (Nat.le_refl _),Nat.sub_self];rfl
theorem uX{d:Def}{H G:Hp}{as:List PV}{vs:List V}(Je:d.np≤d.N.length)(sg:ay G H)(tb:cb W G H)(l:v9 W G d.clo as vs)(hv:vs.length=d.np):aj d as=true∧SR W H (ai d as) (start d.N vs) G H:=by
 unfold aj ai;cases hc:d.clo with
 |none=>
  rw [hc] at l;have l:ae W G as vs:=l
  exact⟨by rw [←l.length,hv];simp,pT sg tb l (by rw [←l.length,hv];exact Je)⟩
 |some q=>
  rw [hc] at l;obtain⟨vi,cy,r8,v,rfl,rfl,l1,cr⟩:=l
  have F7:=l1.length
  have hn:r8.length=d.np-1∧0<d.np:=by rw [List.length_append] at hv;simp at hv;omega
  have ha:vi.length=d.np-1:=by omega
  refine⟨by simp;omega,?_⟩;have h0:=pT (N:=d.N) sg tb l1 (by omega)
  have h1:=h0.putFn vi.length cr
  have e1:(vi.map Slot.val++List.replicate (d.N.length-vi.length) Slot.no).set vi.length (.fn q.1 q.2 cy)=((vi++cy).take (d.np-1)).map .val++.fn q.1 q.2 ((vi++cy).drop (d.np-1))::List.replicate (d.N.length-d.np) Slot.no:=by
   rw [←ha,List.take_left',List.drop_left',show d.N.length-vi.length=(d.N.length-d.np)+1 by omega,List.replicate_succ]
   ·have:=sH (l:=vi.map Slot.val) (r:=List.replicate (d.N.length-d.np) Slot.no) (a:=Slot.no) (b:=.fn q.1 q.2 cy)
    rw [List.length_map] at this;exact this
   ·rfl
   ·rfl
  have e2:(start d.N r8).set vi.length (some v)=start d.N (r8++[v]):=by
   unfold L2.start;rw [List.length_append,List.length_singleton,show d.N.length-r8.length=(d.N.length-(r8.length+1))+1 by omega,List.replicate_succ,←F7];have:=sH (l:=r8.map some) (r:=List.replicate (d.N.length-(r8.length+1)) none) (a:=none) (b:=some v)
   rw [List.length_map] at this;rw [this];simp
  rw [e1,e2] at h1;exact h1
theorem BB(M:qP K mg Γ W)(KB:K.In base){F:bj}{k:Nat}{n nf:Str}{d:Def}{st:Stmt}{fa:Addr}{fd:FuncData}(St:bo Γ n d st)(Fu:Hn K n n st fa fd)(hF:∀f,Γ.fs.contains f=true→ny P w K mg base W F k f)(hH:∀q∈Γ.hs,Ec P w K mg base W F k q)(hA:∀g as,F g as≠.bad→Γ.fs.contains g=true∨gy g=true)
 (hL:Γ.hl=true→∃c p,fd.code=.ref c∧CodeK K c p∧(p,lamQ n)∈W.ts∧∀q',(p,q')∈W.ts→q'=lamQ n):
 fj P w K mg base (dC P w) (k+2) fa fd (d.N.take d.np) (vn W (fun _ as=>ak F d as) nf (d.N.take d.np).length d.clo):=by
 have hlen:(d.N.take d.np).length=d.np:=by rw [List.length_take];have:=St.np;omega
 obtain⟨oc,od,kV,doc,pm,an,e9,ct,qB,rfl,lk,rf⟩:=Fu.ex
 refine Gg lk rf St.sc (fun vs H Q E h=>h.1) fun A outer s H vs Q E hr h=>?_
 obtain⟨hl,G,as,sg,tb,l,o⟩:=h
 rw [hlen] at hl;obtain⟨ar,sr⟩:=uX St.np sg tb l hl
 refine⟨K0 W F H E d.body,jv (Ca M KB St.sc hF hH hA hL hr) d.body _ St.chk,G,ai d as,sr,?_⟩;dsimp only at o;unfold ak at o;rw [if_pos ar] at o;cases r:ax F d.body (ai d as) with
 |bad=>rw [r] at o;exact o
 |exc c=>rw [r] at o;exact o
 |ok fl=>
  rw [r] at o;cases fl with
  |nx env=>exact fun σ' G' H' sr g=>o .non G' H' g .n
  |rt p=>exact fun v G' H' rv g=>o v G' H' g rv
  |bk env=>exact o.elim
  |ct env=>exact o.elim
def AllK(K:PySem.W.Frag)(ts:List (Addr×Str))(Γ:Pg):cN→Prop
 |[]=>True
 |r::l=>EntK K ts r.hl r.h r.st∧bo (Γ.at l r.hl) r.h r.d r.st∧((l.map (·.f)).contains r.f=false∧(r.d.clo.isNone==!gy r.f)=true∧(r.d.clo.isNone=true→r.f=r.h))∧AllK K ts Γ l
theorem tD(M:qP K mg Γ W)(l:cN)(hl:Bool):qP K mg (Γ.at l hl) W:=⟨M.hK,M.hm,M.gs,M.bs,M.nov,M.cls,M.xc,M.xs,M.rm,M.exm,M.bm⟩
theorem ny.mono{F:bj}{j k:Nat}{f:Str}(h:ny P w K mg base W F j f)(hk:j≤k):ny P w K mg base W F k f:=by
 obtain⟨fa,fd,ps,h1,h2⟩:=h.ex
 exact⟨fa,fd,ps,h1.mono hk,h2⟩
theorem kF{F F':bj}{f f':Str}{n:Nat}{q:Option (Str×List Nat)}(e:∀as,F' f' as=F f as):vn W F' f' n q=vn W F f n q:=by
 funext vs H Q E
 unfold vn;simp only [e]
theorem ny.swap{F F':bj}{k:Nat}{f:Str}(h:ny P w K mg base W F k f)(e:∀as,F' f as=F f as):ny P w K mg base W F' k f:=by
 obtain⟨fa,fd,ps,h1,h2,h3,h4,h5⟩:=h.ex
 refine⟨fa,fd,ps,?_,h2,h3,h4,fun as hn=>h5 as (by rw [←e];exact hn)⟩
 rw [kF e];exact h1
theorem Ec.swap{F F':bj}{j k:Nat}{q:Hs}(h:Ec P w K mg base W F j q)(hk:j≤k)(e:∀as,F' q.f as=F q.f as):Ec P w K mg base W F' k q:=by
 obtain⟨fa,fd,ps,h1,h2,h3,h4,h5⟩:=h.ex
 refine⟨fa,fd,ps,?_,h2,h3,h4,h5⟩;rw [kF e];exact h1.mono hk
theorem kb{r:Row}{l:cN}{g:Str}(h:(g==r.f)=false)(as:List PV):den (tab (r::l)) g as=den (tab l) g as:=by
 show(if(g==r.f)=true then _ else _)=_
 rw [h]
 rfl
theorem pj{r:Row}{l:cN}(as:List PV):den (tab (r::l)) r.f as=ak (den (tab l)) r.d as:=by
 show(if(r.f==r.f)=true then _ else _)=_
 rw [beq_self_eq_true]
 rfl
theorem n8:∀(l:cN) {ts:List (Addr×Str)},AllK K ts Γ l→∀g as,den (tab l) g as≠.bad→(lA l).contains g=true∨gy g=true
 |[],_,_,g,as,h=>absurd rfl h
 |r::l,ts,⟨_,_,⟨_,hn,_⟩,hr⟩,g,as,h=>by
  by_cases e:(g==r.f)=true
  ·have e2:=beq_iff_eq.mp e
   subst e2;cases hc:r.d.clo with
   |none=>
    left
    unfold lA;rw [List.filterMap_cons,hc];simp
   |some q=>
    right
    rw [hc] at hn
    simpa using hn
  ·rw [kb (by simpa using e)] at h;rcases n8 l hr g as h with z|z
   ·left
    unfold lA at z⊢;rw [List.filterMap_cons];split
    ·exact z
    ·rw [List.contains_cons,z,Bool.or_true]
   ·exact .inr z
theorem v7(M:qP K mg Γ W)(KB:K.In base)(G:base.Ns mainGlobals mg):∀(l:cN),AllK K W.ts Γ l→(∀f,(lA l).contains f=true→ny P w K mg base W (den (tab l)) (2*l.length) f)∧∀q∈tH l,Ec P w K mg base W (den (tab l)) (2*l.length) q
 |[],_=>⟨fun f hf=>by simp [lA] at hf,fun q hq=>by simp [tH] at hq⟩
 |r::l,hall=>by
  obtain⟨he,hs,⟨hfr,hnm,hfh⟩,hr⟩:=hall
  obtain⟨ih,ihH⟩:=v7 M KB G l hr
  obtain⟨fa,oc,od,kV,doc,pm,an,e9,ct,qB,e1,e2,e3,e4,e5⟩:=he
  have Fu:=xx (st:=r.st) e2 e3 e4
  have ok:=BB (P:=P) (w:=w) (nf:=r.f) (tD M l r.hl) KB (k:=2*l.length) hs Fu (fun g hg=>ih g hg) (fun q hq=>ihH q hq) (n8 l hr) e5
  have pU:∀g,(l.map (·.f)).contains g=true→(g==r.f)=false:=fun g hg=>by
   cases z:g==r.f with
   |false=>rfl
   |true=>rw [beq_iff_eq.mp z,hfr] at hg;cases hg
  have sp:vn W (fun _ as=>ak (den (tab l)) r.d as) r.f (r.d.N.take r.d.np).length r.d.clo=vn W (den (tab (r::l))) r.f (r.d.N.take r.d.np).length r.d.clo:=kF fun as=>(pj as).symm
  rw [sp] at ok;have hlen:(r.d.N.take r.d.np).length=r.d.np:=by rw [List.length_take];have:=hs.np;omega
  have ml:∀f,(lA l).contains f=true→(l.map (·.f)).contains f=true:=fun f hf=>by
   rw [List.contains_iff_mem] at hf⊢;unfold lA at hf;obtain⟨x,hx,e⟩:=List.mem_filterMap.mp hf
   split at e
   ·cases e;exact List.mem_map_of_mem (f:=(·.f)) hx
   ·cases e
  refine⟨fun f hf=>?_,fun q hq=>?_⟩
  ·by_cases oM:(f==r.f)=true∧r.d.clo=none
   ·obtain⟨h1,h2⟩:=oM
    have e:=beq_iff_eq.mp h1
    subst e;refine⟨fa,_,r.d.N.take r.d.np,by rw [h2] at ok;exact ok,?_,e4,Fu.binds hs.bind,fun as hn=>?_⟩
    ·rw [hfh (by rw [h2];rfl)];exact PySem.W.mg_of KB G e1
    ·rw [pj] at hn;unfold ak at hn
     by_cases ha:aj r.d as=true
     ·unfold aj at ha;rw [h2] at ha;rw [hlen];exact beq_iff_eq.mp ha
     ·rw [if_neg ha] at hn;exact absurd rfl hn
   ·have LC:(lA l).contains f=true:=by
     unfold lA at hf⊢;rw [List.filterMap_cons] at hf;split at hf
     ·exact hf
     ·rename_i y hy;split at hy
      ·rename_i hc;cases hy;rw [List.contains_cons,Bool.or_eq_true] at hf;rcases hf with z|z
       ·exact absurd ⟨z,Option.isNone_iff_eq_none.mp hc⟩ oM
       ·exact z
      ·cases hy
    exact((ih f LC).mono (by rw [List.length_cons];omega)).swap fun as=>kb (pU f (ml f LC)) as
  ·unfold tH at hq;rw [List.filterMap_cons] at hq;have tail:q∈tH l→Ec P w K mg base W (den (tab (r::l))) (2*(r::l).length) q:=fun hq=>by
    refine(ihH q hq).swap (by rw [List.length_cons];omega) fun as=>kb (pU q.f ?_) as
    unfold tH at hq;obtain⟨x,hx,e⟩:=List.mem_filterMap.mp hq
    obtain⟨y,_,rfl⟩:=Option.map_eq_some_iff.mp e
    rw [List.contains_iff_mem];exact List.mem_map_of_mem (f:=(·.f)) hx
   cases hc:r.d.clo with
   |none=>rw [hc] at hq;exact tail hq
   |some y=>
    rw [hc] at hq;rcases List.mem_cons.mp hq with z|z
    ·subst z;rw [hc] at ok;exact⟨fa,_,r.d.N.take r.d.np,ok,PySem.W.mg_of KB G e1,e4,Fu.binds hs.bind,hlen⟩
    ·exact tail z
end
end Ci
namespace L2
open PySem PySem.Spec PyProof.Rows
theorem tU{P:Program}{w:World}{K:PySem.W.Frag}{mg mb:Str→Option Value}{CX:qe}{k:Nat}{fa a:Addr}{fd:FuncData}{x:Str}{sp:Sp}{s₁:Shared}{vs:List Value}{ns:List Int}(kJ:List Addr)
 (KX:K.In s₁.heap) (HJ:s₁.heap.Ns mainGlobals mg) (hb:s₁.heap.Ns builtinsNs mb) (Mh:∀x:Str,x≠"__name__"→mb x=bootBuiltins x) (uh:s₁.heap.NoLimit) (hg:s₁.gens=#[])
 (hT:∀p∈kJ,s₁.heap.get? p=some (PySem.W.tabObj #[])) (hC:∀p∈kJ,∃c,Ci.CodeK K c p) (Oa:∀p∈kJ,K.lookup p=none)
 (ha:s₁.heap.get? a=some {cls:=.type "list",data:=.seq vs.toArray}) (hi:IntsAre vs ns) (hl:ns.length≤sizeLine) (hr:df k callerA)
 (F:∀base:Heap,K.In base→base.Ns mainGlobals mg→fj P w K mg base CX k fa fd [x] sp) (Gq:∀(s:Shared) (u:Value),BindsTo s fd ⟨[u],[]⟩ [(x,u)])
 (Ey:∀H:Hp,(∀p∈kJ,H p=some (.tbl #[]))→Ci.LsR K H a (ns.map V.int)→sp [.ref a] H (fun v _=>v=.bl true) fun _ _ _=>False)
 (Jz:∀H e s',CX [] H s₁ (fun _ _ _=>False) e s'→False):
 codeAny (model P w) callerA (.call (.ref fa) ⟨[.ref a],[]⟩) (fun r s'=>r=.ok (.ret (.bool true))∧OldK s₁.heap s'.heap∧s'.os=s₁.os∧AllBare s'.gens) s₁:=by
 have rv:=mn hi
 have FC:=hi.length
 have aT:a∉kJ:=fun z=>by have:=hT a z;rw [ha] at this;cases this
 have core:∀H:Hp,(∀p∈kJ,H p=some (.tbl #[]))→Ci.LsR K H a (ns.map V.int)→dN P w H s₁.heap→(∀b,H b≠none→b∈kJ∨b=a∧∃o xs,H b=some (.frz o xs))→(H a≠none→K.lookup a=none)→
  codeAny (model P w) callerA (.call (.ref fa) ⟨[.ref a],[]⟩) (fun r s'=>r=.ok (.ret (.bool true))∧OldK s₁.heap s'.heap∧s'.os=s₁.os∧AllBare s'.gens) s₁:=by
  intro H hO hS hok hA hK;have so:∀{b:Addr} {o:Obj},s₁.heap.get? b=some o→H b=none→(nF s₁.heap H).get? b=some o:=fun e n=>wN e n
  have yL:∀{b:Addr} {o:Obj} {es:Array DictEntry} {ep:Nat},s₁.heap.get? b=some o→o.data=.dict es ep→H b=none:=fun{b o es ep} e d=>by
   cases q:H b with
   |none=>rfl
   |some u=>
    rcases hA b (by rw [q];simp) with z|⟨z,_⟩
    ·rw [hT b z] at e;cases e;cases d
    ·subst z;rw [ha] at e;cases e;have d':Data.seq vs.toArray _=Data.dict es ep:=d
     cases d'
  have Hf:∀{b:Addr} {m:Str→Option Value},s₁.heap.Ns b m→(nF s₁.heap H).Ns b m:=fun{b m} ⟨o,es,ep,e,d,r⟩=>⟨o,es,ep,so e (yL e d),d,r⟩
  have K4:K.In (nF s₁.heap H):=fun b o e=>so (KX b o e) (by
   cases q:H b with
   |none=>rfl
   |some u=>
    rcases hA b (by rw [q];simp) with z|⟨z,_⟩
    ·rw [Oa b z] at e;cases e
    ·subst z;rw [hK (by rw [q];simp)] at e;cases e)
  have hM:Mod K mg (nF s₁.heap H):=⟨K4,Hf HJ,⟨mb,Hf hb,Mh⟩,let⟨mc,h1,h2⟩:=uh;⟨mc,Hf h1,h2⟩⟩
  have e0:iu P w K mg (nF s₁.heap H) callerA [] s₁ H:=⟨rfl,hM,fun b o e=>AO e,Nat.le_of_eq (uY _ _),trivial,fun b hb=>absurd (show b∈([]:List Addr) from hb) (by simp),hok,.of_eq hg⟩
  refine codeAny_mono ((F _ K4 (Hf HJ)).run callerA [] s₁ H ⟨[.ref a],[]⟩ [.ref a] [.ref a] _ _ hr e0 (Gq s₁ (.ref a)) (.cons rfl .nil) (Ey H hO hS)) fun r s' h=>?_
  cases r with
  |error e=>exact(Jz H e s' h).elim
  |ok fl=>
   cases fl with
   |next=>exact False.elim h
   |brk=>exact False.elim h
   |cont=>exact False.elim h
   |ret u=>
    obtain⟨v,H',os,bare,un,Ad,r',q⟩:=h
    have q':v=.bl true:=q
    subst q';obtain rfl:u=Value.bool true:=r'
    have key:∀b o,s₁.heap.get? b=some o→s'.heap.get? b=some o∨b∈kJ∧∃m,s'.heap.get? b=some (PySem.W.tabObj m):=fun b o e=>by
     cases q:H b with
     |none=>exact .inl (un.keep b o e q (by intro z;exact absurd (show b∈([]:List Addr) from z) (by simp)) (by simp))
     |some u=>
      rcases hA b (by rw [q];simp) with z|⟨z,ob,xs,z2⟩
      ·right
       obtain⟨m,hm⟩:=un.tbls b _ (hO b z)
       exact⟨z,_,Ad b _ hm⟩
      ·left
       have z3:=un.frzs b ob _ z2
       obtain⟨e1,_⟩:=hok b _ z2
       obtain⟨e2,_⟩:=Ad b _ z3
       rw [e] at e1;cases e1;exact e2
    refine⟨rfl,⟨fun b o e=>?_,fun b o e=>?_⟩,os,bare⟩
    ·rcases key b o e with z|⟨z,m,z2⟩
     ·exact .inl z
     ·have e':=hT b z
      rw [e] at e';cases e';obtain⟨c,o',vs',_,_,_,_,_,_,_,k1,k2,k3,k4,_⟩:=hC b z
      have tb:s₁.heap.TableAt c b #[]:=⟨⟨o',vs',KX _ _ k1,k2,k3,k4⟩,e⟩
      exact .inr (.inl ⟨tb.isCodeTable,rfl,#[],m,rfl,by rw [z2];simp⟩)
    ·rcases key b o e with z|⟨_,m,z⟩
     ·exact⟨_,z⟩
     ·exact⟨_,z⟩
 cases hk:K.lookup a with
 |some o=>
  have e:=KX a o hk
  rw [ha] at e;cases e;refine core (fun b=>if b∈kJ then some (.tbl #[]) else none) (fun p hp=>if_pos hp) (.inr ⟨vs.toArray,_,hk,by rw [List.size_toArray,FC];exact hl,by simpa using rv⟩) (fun b u z=>?_) (fun b z=>?_) fun z=>absurd (if_neg aT) z
  ·by_cases hb:b∈kJ
   ·have z':=(if_pos hb).symm.trans z
    cases z';exact hT b hb
   ·have z':=(if_neg hb).symm.trans z
    cases z'
  ·by_cases hb:b∈kJ
   ·exact .inl hb
   ·exact absurd (if_neg hb) z
 |none=>
  refine core (fun b=>if b=a then some (.frz {cls:=.type "list",data:=.seq vs.toArray} (.lst (ns.map V.int))) else if b∈kJ then some (.tbl #[]) else none) (fun p hp=>?_) (.inl (.inr ⟨{cls:=.type "list",data:=.seq vs.toArray},if_pos rfl⟩)) (fun b u z=>?_) (fun b z=>?_) fun _=>hk
  ·show(if p=a then _ else _)=_
   rw [if_neg (show¬p=a from fun z=>aT (by rw [←z];exact hp)),if_pos hp]
  ·by_cases hb:b=a
   ·have z':=(if_pos hb).symm.trans z
    cases z';subst hb;exact⟨ha,by rw [List.length_map];exact hl,vs,_,rv,ha⟩
   ·replace z:=(if_neg hb).symm.trans z
    by_cases hc:b∈kJ
    ·have z':=(if_pos hc).symm.trans z
     cases z';exact hT b hc
    ·have z':=(if_neg hc).symm.trans z
     cases z'
  ·by_cases hb:b=a
   ·exact .inr ⟨hb,_,_,if_pos hb⟩
   ·by_cases hc:b∈kJ
    ·exact .inl hc
    ·exact absurd ((if_neg hb).trans (if_neg hc)) z
theorem walk_L{l:PySem.W.OpenLaw}{n k:Nat}{q:Program}{loose:List Str}{XP:(Str→Option Value)→Heap→Prop}{YP:World→Heap→Prop}{d:DefRec}{K:Params→PySem.W.Frag}{CX:World→qe}{sp:World→Sp}{x:Str}(kJ:List Addr)
 (hn:l.most=some n) (Bq:n≤sizeLine) (F3:d.params.defaults=[]) (hr:df k callerA)
 (hY:∀(w:World) (h:Heap),YP w h→(K w.params).In h∧∀p∈kJ,h.get? p=some (PySem.W.tabObj #[])) (hC:∀(w:World),∀p∈kJ,(∃c,Ci.CodeK (K w.params) c p)∧(K w.params).lookup p=none)
 (F:∀(w:World) (mg:Str→Option Value) (fa:Addr) (h:Heap),(K w.params).In h→h.Ns mainGlobals mg→mg d.name=some (.ref fa)→
  ∃fd:FuncData,(∀(s:Shared) (u:Value),BindsTo s fd ⟨[u],[]⟩ [(x,u)])∧
   ∀base:Heap,(K w.params).In base→base.Ns mainGlobals mg→fj l.prog w (K w.params) mg base (CX w) k fa fd [x] (sp w))
 (Ey:∀(w:World) (H:Hp) (a:Addr) (ns:List Int),ns.length≤n→(∀p∈kJ,H p=some (.tbl #[]))→Ci.LsR (K w.params) H a (ns.map V.int)→sp w [.ref a] H (fun v _=>v=.bl true) fun _ _ _=>False)
 (Jz:∀(w:World) (H:Hp) (s:Shared) (e:Value) (s':Shared),CX w [] H s (fun _ _ _=>False) e s'→False):
 PySem.W.WalkO q loose XP YP l.row.toRowW d [] (fun f vs=>PySem.call f vs):=by
 refine Att.attach_call hn F3 fun w s₀ s₁ mg mb fa o pm cd doc a vs ns G Y ho hd rf hmg hobj hints hlen hg=>?_
 obtain⟨KX,hT⟩:=hY w _ Y
 obtain⟨fd,hb,hF⟩:=F w mg fa _ KX G.T.g hmg
 exact tU kJ KX G.T.g G.T.b G.T.builtins G.T.nolimit hg hT (fun p hp=>(hC w p hp).1) (fun p hp=>(hC w p hp).2) hobj hints (Nat.le_trans hlen Bq) hr hF hb (fun H hO hS=>Ey w H a ns hlen hO hS) fun H e s'=>Jz w H s₁ e s'
end L2
namespace Ci
open PySem L2
theorem jn{W:Wd}{G:Hp}:∀(ns:List Int),ae W G (ns.map PV.int) (ns.map V.int)
 |[]=>.nil
 |n::ns=>.cons .i (jn ns)
def ma(H:Hp):Hp:=fun b=>match H b with
 |some (.tbl _)=>none
 |o=>o
theorem qK(H:Hp):ay (ma H) H:=fun b o e=>by
 unfold ma at e;split at e
 ·cases e
 ·exact e
theorem oF{H:Hp}{b:Addr}{o:HO}(h:H b=some o)(n:∀ps,o≠.tbl ps):ma H b=some o:=by
 unfold ma;rw [h];cases o with
 |tbl ps=>exact absurd rfl (n ps)
 |_=>rfl
noncomputable def Gk(K:PySem.W.Frag)(kJ:List Addr):Sp:=fun vs H Q _=>∃(a:Addr) (ns:List Int),vs=[.ref a]∧(∀p∈kJ,H p=some (.tbl #[]))∧LsR K H a (ns.map V.int)∧ns.length≤63∧∀H',Q (.bl true) H'
theorem walk{l:PySem.W.OpenLaw}{q:Program}{loose:List Str}{XP:(Str→Option Value)→Heap→Prop}{YP:World→Heap→Prop}{d:DefRec}{K:Params→PySem.W.Frag}(rest:cN)(Γ:Pg)(x:Str)(dl:Def)(xs:List Str)(ts:List (Addr×Str))(st:Stmt)
 (hx:dl.N.take dl.np=[x]) (A5:dl.clo=none) (Og:d.name="law") (hn:l.most=some 63) (F3:d.params.defaults=[]) (hr:df (2*rest.length+2) callerA) (hY:∀(w:World) (h:Heap),YP w h→(K w.params).In h∧∀p∈ts.map (·.1),h.get? p=some (PySem.W.tabObj #[]))
 (hC:∀(w:World),∀p∈ts.map (·.1),(∃c,CodeK (K w.params) c p)∧(K w.params).lookup p=none)
 (hM:∀(w:World) (mg:Str→Option Value) (h:Heap),(K w.params).In h→h.Ns mainGlobals mg→qP (K w.params) mg Γ ⟨K w.params,mg,xs,ts⟩)
 (hE:∀w:World,EntK (K w.params) ts false "law" st) (hS:bo (Γ.at rest false) "law" dl st)
 (hA:∀w:World,AllK (K w.params) ts Γ rest)
 (Jg:∀ns:List Int,ns.length≤63→ak (den (tab rest)) dl [.lst (ns.map .int)]=.ok (.bl true)):
 PySem.W.WalkO q loose XP YP l.row.toRowW d [] (fun f vs=>PySem.call f vs):=by
 refine L2.walk_L (n:=63) (k:=2*rest.length+2) (x:=x) (CX:=fun w=>dC l.prog w) (sp:=fun w=>Gk (K w.params) (ts.map (·.1))) (ts.map (·.1)) hn (by decide) F3 hr hY hC ?_ ?_ ?_
 ·intro w mg fa h KX G hmg;rw [Og] at hmg;obtain⟨f,oc,od,kV,doc,pm,an,e9,ct,qB,e1,e2,e3,e4,e5⟩:=hE w
  have hf:fa=f:=by
   have z:=hmg.symm.trans (PySem.W.mg_of KX G e1)
   cases z
   rfl
  subst hf;refine⟨PySem.W.fnOf "law" "law" (defArgs st) (defBody st) (defScope st) .none kV doc pm an e9 ct,fun s u=>?_,fun base KB GB=>?_⟩
  ·have hb:=hS.bind kV doc pm an e9 ct [u]
   rw [hx] at hb;exact .of_eq (hb rfl)
  ·have M:=hM w mg base KB GB
   obtain⟨a1,a2⟩:=v7 (P:=l.prog) (w:=w) M KB GB rest (hA w)
   have ok:=BB (P:=l.prog) (w:=w) (nf:="law") (tD M rest false) KB (k:=2*rest.length) hS (xx (st:=st) e2 e3 e4) (fun g hg=>a1 g hg) (fun q hq=>a2 q hq) (n8 rest (hA w)) (fun z=>nomatch z)
   rw [hx] at ok;refine ok.imp fun vs H Q E h=>?_
   obtain⟨a,ns,rfl,ht,hl,hlen,q⟩:=h
   refine⟨rfl,ma H,[.lst (ns.map .int)],qK H,fun P q m=>?_,?_,?_⟩
   ·have hP:=ht P (List.mem_map_of_mem (f:=(·.1)) m)
    refine⟨by unfold ma;rw [hP],#[],hP,trivial,fun pos cv e=>nomatch e⟩
   ·rw [A5];refine ae.cons (.l ?_ (jn ns)) .nil;rcases hl with(h|⟨o,h⟩)|h
    ·exact .inl (.inl (oF h (fun _ z=>nomatch z)))
    ·exact .inl (.inr ⟨o,oF h (fun _ z=>nomatch z)⟩)
    ·exact .inr h
   ·dsimp only;rw [Jg ns hlen];intro v G' H' _ rv;simp only [Rep] at rv;subst rv;exact q H'
 ·intro w H a ns hlen hO rj;exact⟨a,ns,rfl,hO,rj,hlen,fun _=>rfl⟩
 ·intro w H s e s' h;obtain⟨a,C,t,vs,H',B,rfl,F⟩:=h
  exact F.ends
end Ci
namespace Hd
open PySem PySem.W PySem.Calls
noncomputable def Ce(st:SharedT→Thread→Option (SharedT×Thread))(ok:Thread→Bool)(n:Nat):SharedT→Thread→Option SharedT:=
 @Nat.rec (fun _=>SharedT→Thread→Option SharedT) (fun _ _=>none) (fun _ ih s t=>match through t with
  |true=>some s
  |false=>match ok t with
   |false=>none
   |true=>match st s t with
    |some (s',t')=>ih s' t'
    |none=>none) n
theorem md{tb:String→Option Builtin}{p:Program}{w:World}{n₀:Nat}{ann:Option Value}:∀{n:Nat} {s s':SharedT} {t:Thread},Ce (stepT (denote tb) p w) (stepOk n₀ ann) n s t=some s'→topRun tb p w n₀ ann n s.abs t=some s'.abs
 |0,_,_,_,h=>by cases h
 |n+1,s,s',t,h=>by
  have h:(match through t with
   |true=>some s
   |false=>match stepOk n₀ ann t with
    |false=>none
    |true=>match stepT (denote tb) p w s t with
     |some (s',t')=>Ce (stepT (denote tb) p w) (stepOk n₀ ann) n s' t'
     |none=>none)=some s':=h
  unfold topRun;cases ht:through t with
  |true=>rw [ht] at h;cases h;rfl
  |false=>
   rw [ht] at h;cases hk:stepOk n₀ ann t with
   |false=>rw [hk] at h;cases h
   |true=>
    rw [hk] at h;cases hs:stepT (denote tb) p w s t with
    |none=>rw [hs] at h;cases h
    |some r=>obtain⟨s₂,t₂⟩:=r;rw [hs] at h;rw [stepT_spec hs];exact md h
def treeOf(l:List Obj):BT:=(l.foldl (fun(T,i) o=>(BT.ins T i o,i+1)) (BT.nil,0)).1
theorem left_of{p q:Program}{loose:List Str}{Xt:Shared→Bool}{α:Type}{Yf:Shared→α}{Ya:World→α}{N:Nat}{g0:Bool}{T₀:Params→BT}{life:Life}{m₀:Nat}{ann:Option Value}{M:Nat}
 (e:opening p=plainProg p.main.scope.names) (hN:Nat.ble 600 N=true) (f:∀s,fenceModules? p s=some s)
 (e0:∀P:Params,absHeap (T₀ P) m₀ life=boot_heap P)
 (size:∀w:World,((boot_heap w.params).isNs mainGlobals,(boot_heap w.params).nsMap mainGlobals "__annotations__")=(true,ann))
 (le:Nat.ble M N=true)
 (run:∀(w:World) (os:OsState),(Ce (stepT (denote treeTable) p w) (stepOk m₀ ann) M ⟨T₀ w.params,m₀,life,Array.mk [],boot_drawn,boot_toks,os⟩ (topStub p)).map (fun s=>
  ((staticsOk (importedModules p.main.body) (boot_heap w.params) s.abs.heap&&namesBound p s.abs.heap&&gensDone s.abs&&laidKept (boot_heap w.params) s.abs.heap),openSeen q loose (importedModules p.main.body) Xt g0 s.abs,Yf s.abs))
  =some (true,openGood q loose,Ya w)):LeftO p q loose Xt Yf Ya N g0:=fun w=>by
 obtain⟨⟨h,gs,d,k,os⟩,e1,e'⟩:=Option.map_eq_some_iff.mp (boot_open e hN f w)
 obtain⟨rfl,rfl,rfl,rfl⟩:h=boot_heap w.params∧gs=Array.mk []∧d=boot_drawn∧k=boot_toks:=by simpa using e'
 obtain⟨z1,z3⟩:_∧_:=by simpa only [Prod.mk.injEq] using size w
 obtain⟨s,r,l⟩:=Option.map_eq_some_iff.mp (run w os)
 obtain⟨l1,l2,l3⟩:_∧_∧_:=by simpa only [Prod.mk.injEq] using l
 have r:=md r
 have r:=topRun_mono (N-M) _ _ _ _ r
 rw [show M+(N-M)=N by have:=Nat.le_of_ble_eq_true le;omega] at r;have hs:(boot_heap w.params).objs.size=m₀:=by rw [←e0 w.params];exact absHeap_size _ _ _
 have r:topRun treeTable p w m₀ ann N ⟨boot_heap w.params,Array.mk [],boot_drawn,boot_toks,os⟩ (topStub p)=some s.abs:=by
  have:(⟨T₀ w.params,m₀,life,Array.mk [],boot_drawn,boot_toks,os⟩:SharedT).abs=⟨boot_heap w.params,Array.mk [],boot_drawn,boot_toks,os⟩:=by
   show Shared.mk _ _ _ _ _=_
   rw [show absHeap (T₀ w.params) m₀ life=boot_heap w.params from e0 w.params]
  rw [←this];exact r
 have t:topFrom treeTable p w N ⟨boot_heap w.params,Array.mk [],boot_drawn,boot_toks,os⟩=some s.abs:=by
  unfold topFrom;dsimp only;rw [z1,z3,hs,r];show(match staticsOk (importedModules p.main.body) (boot_heap w.params) s.abs.heap&&namesBound p s.abs.heap&&gensDone s.abs&&laidKept (boot_heap w.params) s.abs.heap with|true=>_|false=>_)=_
  rw [l1]
 unfold openEnds;rw [e1];show(topFrom treeTable p w N _).map _=_
 rw [t];exact congrArg some (Prod.ext l2 l3)
end Hd
namespace Hd
open PySem PySem.W
theorem boot0:∀P:Params,absHeap (treeOf (boot_heap P).objs.toList) 11 {}=boot_heap P:=fun P=>by kernel_rfl
theorem boot1:∀w:World,((boot_heap w.params).isNs mainGlobals,(boot_heap w.params).nsMap mainGlobals "__annotations__")=(true,some (.ref 6)):=fun w=>by kernel_rfl
abbrev de(P:Params)(x:Str)(t:Tok)(v:Value):DictEntry:={hash:=PyData.keyHash P x,key:=.str x t,val:=v}
theorem holds{l:OpenLaw}{keep:List Nat}{K:Params→Frag}{as:List Addr}{d:DefRec}{N:Nat}(HQ:l.wellSaid=true)
 (ka:∀P,as=(K P).map (·.1))
 (left:LeftO l.row.prog (view l.row.prog keep) [] (fun s=>xlAt (view l.row.prog keep) [] s&&recOk l.row.toRowW.records s) (kHook K as ka).obs (kHook K as ka).val N)
 (DJ:defOf (view l.row.prog keep) l.row.name=some (d,[])) (hp:l.row.prog.theDef l.row.name=some (d.params,d.body,d.scope)) (hk:kwWritten? d.params.kwonlyargs d.params.kw_defaults=some [])
 (ok:(chainsOk (view l.row.prog keep)&&opensWell l.row.prog&&(frees l.row.toRowW&&l.row.within.isEmpty))=true) (hb:l.row.prog.bare) (hw:l.row.toRowW.promised)
 (call:WalkO (view l.row.prog keep) [] (XL (view l.row.prog keep) []) (kHook K as ka).says l.row.toRowW d [] fun f vs=>PySem.call f vs):l.Holds:=
 holds_law HQ fun k1=>holds_open (N:=N) left (Hook.of (kHook K as ka)) (Hook.keeps (kHook K as ka)) (fun s e=>xl_of s (Bool.and_eq_true_iff.mp e).1) XL.keeps DJ hp hk (fun s e=>recFacts_of (Bool.and_eq_true_iff.mp e).2) (by cases h:l.row.writes<;>rfl) k1 ok hb hw call
theorem ar1{P:List Value→Prop}(h:∀a0,P [a0]):∀us:List Value,us.length=1→P us
 |[a0],_=>h a0
theorem ar2{P:List Value→Prop}(h:∀a0 a1,P [a0,a1]):∀us:List Value,us.length=2→P us
 |[a0,a1],_=>h a0 a1
theorem ar3{P:List Value→Prop}(h:∀a0 a1 a2,P [a0,a1,a2]):∀us:List Value,us.length=3→P us
 |[a0,a1,a2],_=>h a0 a1 a2
theorem ar4{P:List Value→Prop}(h:∀a0 a1 a2 a3,P [a0,a1,a2,a3]):∀us:List Value,us.length=4→P us
 |[a0,a1,a2,a3],_=>h a0 a1 a2 a3
theorem ar5{P:List Value→Prop}(h:∀a0 a1 a2 a3 a4,P [a0,a1,a2,a3,a4]):∀us:List Value,us.length=5→P us
 |[a0,a1,a2,a3,a4],_=>h a0 a1 a2 a3 a4
end Hd
namespace KJ
open PySem L2 Ci
theorem Bj{α β:Type}{a:α}{f:α→Res β}:(Res.ok a).bind f=f a:=id rfl
theorem Ld{α:Type}{a:α}:(Res.ok a).well=.ok a:=id rfl
theorem Mk{α:Type}{a:α}:Res.of (some a)=.ok a:=id rfl
theorem MO{env:Sl}{k:Sl→Res Fl}:(Fl.nx env).seq k=k env:=id rfl
theorem Mi{p:PV}{k:Sl→Res Fl}:(Fl.rt p).seq k=.ok (.rt p):=id rfl
theorem M4{env:Sl}{k:Sl→Res Fl}:(Fl.bk env).seq k=.ok (.bk env):=id rfl
theorem sv{p:PV}:gW (some (.val p))=.ok p:=id rfl
theorem Np{p:PV}:xF (some (.val p))=.ok p:=id rfl
theorem Mf{p:PV}:xF (some (.own p))=.ok p:=id rfl
theorem GO{α:Type}{b:Bool}{f:Bool→Res α}:rb (.bl b) f=f b:=id rfl
theorem F5{i j:Int}:binOp .add (.int i) (.int j)=.ok (.int (i+j)):=id rfl
theorem FI{i j:Str}:binOp .add (.str i) (.str j)=if i.length+j.length≤fH then .ok (.str (i++j)) else .bad:=id rfl
theorem Gy{i j:List PV}:binOp .add (.lst i) (.lst j)=if i.length+j.length≤fH then .ok (.lst (i++j)) else .bad:=id rfl
theorem Jj{i j:Int}:binOp .sub (.int i) (.int j)=.ok (.int (i-j)):=id rfl
theorem JV{i j:Int}:binOp .mul (.int i) (.int j)=if aO i||aO j then .ok (.int (i*j)) else .bad:=id rfl
theorem Jo{i j:Int}:binOp .mod (.int i) (.int j)=if 0<j then .ok (.int (i%j)) else .bad:=id rfl
theorem Kd{i j:Int}:binOp .fdiv (.int i) (.int j)=if 0<j∧j<1073741824 then .ok (.int (i/j)) else .bad:=id rfl
theorem NW:cO .eq=iO:=id rfl
theorem MC:cO .ne=iN:=id rfl
theorem Nv:cO .lt=pL:=id rfl
theorem N5:cO .le=oJ:=id rfl
theorem Nu:cO .ge=qj:=id rfl
theorem KN:cO .in_=qm:=id rfl
theorem Jc:cO .nin=jZ:=id rfl
theorem oLt{i j:Int}:pL (.int i) (.int j)=.ok (.bl (decide (i<j))):=id rfl
theorem oLe{i j:Int}:oJ (.int i) (.int j)=.ok (.bl (decide (i≤j))):=id rfl
theorem M0{i j:Int}:qj (.int i) (.int j)=.ok (.bl (decide (j≤i))):=id rfl
theorem lL{xs:List PV}:cR .len [.lst xs]=.ok (.int xs.length):=id rfl
theorem lT{xs:List PV}:cR .len [.tup xs]=.ok (.int xs.length):=id rfl
theorem lS{z:Str}:cR .len [.str z]=if z.length≤fH then .ok (.int z.length) else .bad:=id rfl
theorem aL{xs:List PV}:cR .all [.lst xs]=(Res.of (boolsOf xs)).bind fun bs=>.ok (.bl (bs.all id)):=id rfl
theorem Mv{i:Nat}{p:PV}{env:Sl}:(Tg.one i).put p env=.ok (env.set i (.val p)):=id rfl
theorem Oo{i j:Nat}{a b:PV}{env:Sl}:(Tg.two i j).put (.tup [a,b]) env=.ok ((env.set i (.val a)).set j (.val b)):=id rfl
theorem ES{p:PV}:nT (.own p)=.val p:=id rfl
theorem jA{α:Type}{a:α}{as:List α}:(a::as).length=as.length+1:=id rfl
theorem jB{α:Type}:([]:List α).length=0:=id rfl
theorem jC{α β:Type}{f:α→β}{a:α}{l:List α}:(a::l).map f=f a::l.map f:=id rfl
theorem jD{α β:Type}{f:α→β}:([]:List α).map f=[]:=id rfl
theorem jE{α:Type}{a:α}{as bs:List α}:a::as++bs=a::(as++bs):=id rfl
theorem jF{α:Type}{as:List α}:[]++as=as:=id rfl
theorem jG{α:Type}{a:α}{l:List α}:(a::l)[0]?=some a:=id rfl
theorem jH{α:Type}{a:α}{l:List α}{i:Nat}:(a::l)[i+1]?=l[i]?:=id rfl
theorem jI{α:Type}{a b:α}{l:List α}:(a::l).set 0 b=b::l:=id rfl
theorem jJ{α:Type}{a b:α}{l:List α}{i:Nat}:(a::l).set (i+1) b=a::l.set i b:=id rfl
theorem jK{α:Type}{a d:α}{l:List α}:(a::l).getD 0 d=a:=id rfl
theorem jL{α:Type}{a d:α}{l:List α}{i:Nat}:(a::l).getD (i+1) d=l.getD i d:=id rfl
theorem jM{n:Nat}:0+n=n:=Nat.zero_add _
theorem jN:(!true)=false:=id rfl
theorem jO:(!false)=true:=id rfl
theorem jP:(false=true)=False:=Bool.false_eq_true
theorem dI{e:E}{xs:List PV}:vf e (.lst xs)=.ok xs:=id rfl
theorem MS{e:E}{xs:List PV}:vf e (.tup xs)=.ok xs:=id rfl
theorem KO{xs:List PV}:itemsOf (.tup xs)=.ok xs:=id rfl
theorem Le{z:Str}:itemsOf (.str z)=.ok (chars z):=id rfl
theorem jQ{α:Type}{f:α→α}{a:α}{l:List α}:(a::l).modify 0 f=f a::l:=id rfl
theorem jR{α:Type}{f:α→α}{a:α}{l:List α}{i:Nat}:(a::l).modify (i+1) f=a::l.modify i f:=by simp
theorem jS{α:Type}{a:α}:List.replicate 0 a=[]:=id rfl
theorem jT{α:Type}{a:α}{n:Nat}:List.replicate (n+1) a=a::List.replicate n a:=id rfl
theorem jU{n:Nat}:(n==n)=true:=beq_self_eq_true n
noncomputable def J:=And.intro @jS (And.intro @jT (And.intro @jU (And.intro @Bj (And.intro @Ld (And.intro @Mk (And.intro @MO (And.intro @Mi (And.intro @M4 (And.intro @sv (And.intro @Np (And.intro @Mf (And.intro @GO (And.intro @F5 (And.intro @FI (And.intro @Gy (And.intro @Jj (And.intro @JV (And.intro @Jo (And.intro @Kd (And.intro @NW (And.intro @MC (And.intro @Nv (And.intro @N5 (And.intro @Nu (And.intro @KN (And.intro @Jc (And.intro @oLt (And.intro @oLe (And.intro @M0 (And.intro @lL (And.intro @lT (And.intro @lS (And.intro @aL (And.intro @Mv (And.intro @Oo (And.intro @ES (And.intro @jA (And.intro @jB (And.intro @jC (And.intro @jD (And.intro @jE (And.intro @jF (And.intro @jG (And.intro @jH (And.intro @jI (And.intro @jJ (And.intro @jK (And.intro @jL (And.intro @jM (And.intro @jN (And.intro @jO (And.intro @jP (And.intro @dI (And.intro @MS (And.intro @KO (And.intro @Le (And.intro @jQ (@jR))))))))))))))))))))))))))))))))))))))))))))))))))))))))))
theorem aN{n:Str}{d:Def}{r:List (Str×Def)}:den ((n,d)::r) n=ak (den r) d:=by
 funext as;simp [den]
theorem CA{n f:Str}{d:Def}{r:List (Str×Def)}(h:(f==n)=false):den ((n,d)::r) f=den r f:=by
 funext as;simp [den,h]
theorem az{f:Str}:∀(n:Nat) {T:List (Str×Def)},((T.take n).all fun x=>!(f==x.1))=true→den T f=den (T.drop n) f
 |0,_,_=>rfl
 |n+1,[],_=>rfl
 |n+1,(m,d)::r,h=>by
  rw [List.take_succ_cons,List.all_cons,Bool.and_eq_true,Bool.not_eq_true'] at h;exact(CA h.1).trans (az n h.2)
end KJ
namespace K98
open PySem L2 Ci KJ
noncomputable def cC:Def:=⟨["_law_script","_law_k"],2,(.cons (.ite (.cmp .lt (.var 1) (.blt .len (.cons (.var 0) .nil)))
 (.cons (.ret (.sub (.var 0) (.var 1)))
 .nil)
 .nil)
 (.cons (.ite (.cmp .eq (.var 0) (.lst .nil))
  (.cons (.ret (.cst (.int 0)))
  .nil)
  .nil)
 (.cons (.ret (.bin .add (.bin .mul (.sub (.var 0) (.bin .mod (.var 1) (.blt .len (.cons (.var 0) .nil)))) (.cst (.int 31))) (.var 1)))
 .nil))),none⟩
noncomputable def cD:Def:=⟨["_law_script","_law_k","_law_many","_law_drawn"],3,(.cons (.set 3 (.bin .mod (.bin .mul (.bin .add (.call "_law_cell" (.cons (.var 0) (.cons (.var 1) .nil))) (.bin .mul (.cst (.int 6151)) (.bin .add (.var 1) (.cst (.int 1))))) (.cst (.int 40692))) (.cst (.int 2147483399))))
 (.cons (.ret (.bin .mod (.bin .mod (.bin .add (.bin .mul (.var 3) (.var 3)) (.bin .fdiv (.var 3) (.cst (.int 31)))) (.cst (.int 2147483629))) (.var 2)))
 .nil)),none⟩
def cT:Def:=⟨["thing"],1,(.cons (.ret (.and (.ty .int (.var 0)) (.not (.ty .bool (.var 0)))))
 .nil),none⟩
noncomputable def dz:Def:=⟨["thing"],1,(.cons (.ret (.and (.ty .tuple (.var 0)) (.and (.cmp .eq (.blt .len (.cons (.var 0) .nil)) (.cst (.int 2))) (.and (.call "is_whole" (.cons (.sub (.var 0) (.cst (.int 0))) .nil)) (.call "is_whole" (.cons (.sub (.var 0) (.cst (.int 1))) .nil))))))
 .nil),none⟩
noncomputable def bV:Def:=⟨["floor","spot"],2,(.cons (.ret (.and (.ch .le .lt (.cst (.int 0)) (.sub (.var 1) (.cst (.int 0))) (.blt .len (.cons (.var 0) .nil))) (.ch .le .lt (.cst (.int 0)) (.sub (.var 1) (.cst (.int 1))) (.blt .len (.cons (.sub (.var 0) (.sub (.var 1) (.cst (.int 0)))) .nil)))))
 .nil),none⟩
noncomputable def cu:Def:=⟨["floor","thing"],2,(.cons (.ret (.and (.call "is_spot" (.cons (.var 1) .nil)) (.and (.call "is_on_floor" (.cons (.var 0) (.cons (.var 1) .nil))) (.cmp .ne (.sub (.sub (.var 0) (.sub (.var 1) (.cst (.int 0)))) (.sub (.var 1) (.cst (.int 1)))) (.glob "WALL" (.str "#"))))))
 .nil),none⟩
noncomputable def bJ:Def:=⟨["floor","spot"],2,(.cons (.ite (.not (.call "is_open" (.cons (.var 0) (.cons (.var 1) .nil))))
 (.cons (.raise "NoSpot" "the spot is not on the floor or a wall")
 .nil)
 .nil)
 .nil),none⟩
noncomputable def cq:Def:=⟨["one","other"],2,(.cons (.ret (.and (.cmp .ne (.var 0) (.var 1)) (.and (.cmp .le (.blt .abs (.cons (.bin .sub (.sub (.var 0) (.cst (.int 0))) (.sub (.var 1) (.cst (.int 0)))) .nil)) (.cst (.int 1))) (.cmp .le (.blt .abs (.cons (.bin .sub (.sub (.var 0) (.cst (.int 1))) (.sub (.var 1) (.cst (.int 1)))) .nil)) (.cst (.int 1))))))
 .nil),none⟩
noncomputable def cE:Def:=⟨["floor","spot"],2,(.cons (.expr (.call "need_open" (.cons (.var 0) (.cons (.var 1) .nil))))
 (.cons (.ret (.blt .int (.cons (.sub (.sub (.var 0) (.sub (.var 1) (.cst (.int 0)))) (.sub (.var 1) (.cst (.int 1)))) .nil)))
 .nil)),none⟩
noncomputable def bf:Def:=⟨["floor","one","other"],3,(.cons (.ret (.and (.call "is_open" (.cons (.var 0) (.cons (.tup (.cons (.sub (.var 1) (.cst (.int 0))) (.cons (.sub (.var 2) (.cst (.int 1))) .nil))) .nil))) (.call "is_open" (.cons (.var 0) (.cons (.tup (.cons (.sub (.var 2) (.cst (.int 0))) (.cons (.sub (.var 1) (.cst (.int 1))) .nil))) .nil)))))
 .nil),none⟩
noncomputable def bI:Def:=⟨["floor","walker","one","other","is_slanting","rise","flat_cost"],4,(.cons (.ite (.not (.call "are_beside" (.cons (.var 2) (.cons (.var 3) .nil))))
 (.cons (.ret (.cst .non))
 .nil)
 .nil)
 (.cons (.set 4 (.and (.cmp .ne (.sub (.var 2) (.cst (.int 0))) (.sub (.var 3) (.cst (.int 0)))) (.cmp .ne (.sub (.var 2) (.cst (.int 1))) (.sub (.var 3) (.cst (.int 1))))))
 (.cons (.ite (.and (.var 4) (.not (.and (.sub (.var 1) (.cst (.int 0))) (.call "has_open_corners" (.cons (.var 0) (.cons (.var 2) (.cons (.var 3) .nil)))))))
  (.cons (.ret (.cst .non))
  .nil)
  .nil)
 (.cons (.set 5 (.bin .sub (.call "height_at" (.cons (.var 0) (.cons (.var 3) .nil))) (.call "height_at" (.cons (.var 0) (.cons (.var 2) .nil)))))
 (.cons (.ite (.cmp .gt (.blt .abs (.cons (.var 5) .nil)) (.sub (.var 1) (.cst (.int 1))))
  (.cons (.ret (.cst .non))
  .nil)
  .nil)
 (.cons (.set 6 (.ite (.var 4) (.glob "SLANTING_COST" (.int 3)) (.glob "STRAIGHT_COST" (.int 2))))
 (.cons (.ret (.bin .add (.var 6) (.bin .mul (.sub (.var 1) (.cst (.int 2))) (.blt .max2 (.cons (.var 5) (.cons (.cst (.int 0)) .nil))))))
 .nil))))))),none⟩
noncomputable def aY:Def:=⟨["floor","spot","beside","row","column"],2,(.cons (.own 2 (.lst .nil))
 (.cons (.for_ (.one 3) (.rng2 (.bin .sub (.sub (.var 1) (.cst (.int 0))) (.cst (.int 1))) (.bin .add (.sub (.var 1) (.cst (.int 0))) (.cst (.int 2))))
  (.cons (.for_ (.one 4) (.rng2 (.bin .sub (.sub (.var 1) (.cst (.int 1))) (.cst (.int 1))) (.bin .add (.sub (.var 1) (.cst (.int 1))) (.cst (.int 2))))
   (.cons (.ite (.and (.cmp .ne (.tup (.cons (.var 3) (.cons (.var 4) .nil))) (.var 1)) (.call "is_open" (.cons (.var 0) (.cons (.tup (.cons (.var 3) (.cons (.var 4) .nil))) .nil))))
    (.cons (.app 2 (.tup (.cons (.var 3) (.cons (.var 4) .nil))))
    .nil)
    .nil)
   .nil))
  .nil))
 (.cons (.frz 2)
 (.cons (.ret (.var 2))
 .nil)))),none⟩
noncomputable def bF:Def:=⟨["floor","walker","spot","steps","other","cost"],3,(.cons (.expr (.call "need_open" (.cons (.var 0) (.cons (.var 2) .nil))))
 (.cons (.own 3 (.lst .nil))
 (.cons (.for_ (.one 4) (.seq (.call "open_spots_beside" (.cons (.var 0) (.cons (.var 2) .nil))))
  (.cons (.set 5 (.call "step_cost" (.cons (.var 0) (.cons (.var 1) (.cons (.var 2) (.cons (.var 4) .nil))))))
  (.cons (.ite (.cmp .isn (.var 5) (.cst .non))
   (.cons (.app 3 (.tup (.cons (.var 4) (.cons (.var 5) .nil))))
   .nil)
   .nil)
  .nil)))
 (.cons (.frz 3)
 (.cons (.ret (.var 3))
 .nil))))),none⟩
noncomputable def gE:Def:=⟨["floor","walker","spot"],3,(.cons (.ret (.comp 1 [1,2,0] (.one 0) (.seq (.call "steps_from" (.cons (.var 0) (.cons (.var 1) (.cons (.var 2) .nil))))) (.tup (.cons (.sub (.var 0) (.cst (.int 0))) (.cons (.call "step_cost" (.cons (.var 3) (.cons (.var 1) (.cons (.sub (.var 0) (.cst (.int 0))) (.cons (.var 2) .nil))))) .nil)))))
 .nil),none⟩
noncomputable def cj:Def:=⟨["starts","steps","reached","waiting","start","spot","other","cost","together"],2,(.cons (.dnew 2)
 (.cons (.dnew 3)
 (.cons (.for_ (.one 4) (.seq (.var 0))
  (.cons (.put 3 (.var 4) (.tup (.cons (.cst (.int 0)) (.cons (.cst .non) .nil))))
  .nil))
 (.cons (.whl (.cmp .gt (.blt .len (.cons (.tmp 3) .nil)) (.cst (.int 0)))
  (.cons (.minK 5 3)
  (.cons (.putPop 2 3 5)
  (.cons (.for_ (.two 6 7) (.seq (.callv 1 (.cons (.var 5) .nil)))
   (.cons (.set 8 (.bin .add (.sub (.sub (.tmp 2) (.var 5)) (.cst (.int 0))) (.var 7)))
   (.cons (.ite (.and (.cmp .nin (.var 6) (.tmp 2)) (.or (.cmp .nin (.var 6) (.tmp 3)) (.cmp .lt (.var 8) (.sub (.sub (.tmp 3) (.var 6)) (.cst (.int 0))))))
    (.cons (.put 3 (.var 6) (.tup (.cons (.var 8) (.cons (.var 5) .nil))))
    .nil)
    .nil)
   .nil)))
  .nil))))
 (.cons (.frz 2)
 (.cons (.ret (.var 2))
 .nil)))))),some ("steps_to",[1,2,1,0])⟩
noncomputable def fG:Def:=⟨["floor","walker","goals","goal"],3,(.cons (.for_ (.one 3) (.seq (.var 2))
 (.cons (.expr (.call "need_open" (.cons (.var 0) (.cons (.var 3) .nil))))
 .nil))
 (.cons (.ret (.callL "spread@steps_to" (.cons (.var 2) .nil) "steps_to" [1,2,1,0] [1,0]))
 .nil)),none⟩
noncomputable def eC:Def:=⟨["reached","place","trace"],2,(.cons (.own 2 (.lst (.cons (.var 1) .nil)))
 (.cons (.whl (.cmp .isn (.sub (.sub (.var 0) (.sub (.tmp 2) (.neg (.cst (.int 1))))) (.cst (.int 1))) (.cst .non))
  (.cons (.app 2 (.sub (.sub (.var 0) (.sub (.tmp 2) (.neg (.cst (.int 1))))) (.cst (.int 1))))
  .nil))
 (.cons (.frz 2)
 (.cons (.ret (.var 2))
 .nil)))),none⟩
noncomputable def fM:Def:=⟨["floor","walker","start","goal","reached"],4,(.cons (.expr (.call "need_open" (.cons (.var 0) (.cons (.var 2) .nil))))
 (.cons (.set 4 (.call "spread_to" (.cons (.var 0) (.cons (.var 1) (.cons (.lst (.cons (.var 3) .nil)) .nil)))))
 (.cons (.ite (.cmp .nin (.var 2) (.var 4))
  (.cons (.ret (.cst .non))
  .nil)
  .nil)
 (.cons (.ret (.tup (.cons (.sub (.sub (.var 4) (.var 2)) (.cst (.int 0))) (.cons (.call "traced" (.cons (.var 4) (.cons (.var 2) .nil))) .nil))))
 .nil)))),none⟩
noncomputable def bP:Def:=⟨["floor","thing"],2,(.cons (.ite (.or (.not (.ty .list (.var 1))) (.cmp .eq (.blt .len (.cons (.var 1) .nil)) (.cst (.int 0))))
 (.cons (.ret (.cst (.bl false)))
 .nil)
 .nil)
 (.cons (.ret (.blt .all (.cons (.comp 1 [0] (.one 0) (.seq (.var 1)) (.call "is_open" (.cons (.var 1) (.cons (.var 0) .nil)))) .nil)))
 .nil)),none⟩
noncomputable def d9:Def:=⟨["floor","walker","spots"],3,(.cons (.ret (.comp 2 [1,0] (.two 0 1) (.zip (.var 2) (.slice (.var 2) (.some (.cst (.int 1))) .no)) (.call "step_cost" (.cons (.var 3) (.cons (.var 2) (.cons (.var 0) (.cons (.var 1) .nil)))))))
 .nil),none⟩
noncomputable def jY:Def:=⟨["floor","walker","thing"],3,(.cons (.ret (.and (.call "is_list_of_open_spots" (.cons (.var 0) (.cons (.var 2) .nil))) (.cmp .nin (.cst .non) (.call "costs_along" (.cons (.var 0) (.cons (.var 1) (.cons (.var 2) .nil)))))))
 .nil),none⟩
noncomputable def gv:Def:=⟨["floor","walker","thing"],3,(.cons (.ite (.not (.call "is_way" (.cons (.var 0) (.cons (.var 1) (.cons (.var 2) .nil)))))
 (.cons (.raise "NoWay" "this is no way of the walker over the floor")
 .nil)
 .nil)
 .nil),none⟩
noncomputable def iM:Def:=⟨["floor","walker","way"],3,(.cons (.expr (.call "need_way" (.cons (.var 0) (.cons (.var 1) (.cons (.var 2) .nil)))))
 (.cons (.ret (.blt .sum (.cons (.call "costs_along" (.cons (.var 0) (.cons (.var 1) (.cons (.var 2) .nil)))) .nil)))
 .nil)),none⟩
noncomputable def cB:Def:=⟨["spot","size"],2,(.cons (.ret (.tup (.cons (.bin .fdiv (.sub (.var 0) (.cst (.int 0))) (.var 1)) (.cons (.bin .fdiv (.sub (.var 0) (.cst (.int 1))) (.var 1)) .nil))))
 .nil),none⟩
noncomputable def bx:Def:=⟨["floor","walker","size","spot","block"],4,(.cons (.set 4 (.call "block_of" (.cons (.var 3) (.cons (.var 2) .nil))))
 (.cons (.ret (.compIf 1 [2,4] (.one 0) (.seq (.call "steps_from" (.cons (.var 0) (.cons (.var 1) (.cons (.var 3) .nil))))) (.cmp .eq (.call "block_of" (.cons (.sub (.var 0) (.cst (.int 0))) (.cons (.var 1) .nil))) (.var 2)) (.var 0)))
 .nil)),none⟩
noncomputable def aP:Def:=⟨["starts","steps","reached","waiting","start","spot","other","cost","together"],2,(.cons (.dnew 2)
 (.cons (.dnew 3)
 (.cons (.for_ (.one 4) (.seq (.var 0))
  (.cons (.put 3 (.var 4) (.tup (.cons (.cst (.int 0)) (.cons (.cst .non) .nil))))
  .nil))
 (.cons (.whl (.cmp .gt (.blt .len (.cons (.tmp 3) .nil)) (.cst (.int 0)))
  (.cons (.minK 5 3)
  (.cons (.putPop 2 3 5)
  (.cons (.for_ (.two 6 7) (.seq (.callv 1 (.cons (.var 5) .nil)))
   (.cons (.set 8 (.bin .add (.sub (.sub (.tmp 2) (.var 5)) (.cst (.int 0))) (.var 7)))
   (.cons (.ite (.and (.cmp .nin (.var 6) (.tmp 2)) (.or (.cmp .nin (.var 6) (.tmp 3)) (.cmp .lt (.var 8) (.sub (.sub (.tmp 3) (.var 6)) (.cst (.int 0))))))
    (.cons (.put 3 (.var 6) (.tup (.cons (.var 8) (.cons (.var 5) .nil))))
    .nil)
    .nil)
   .nil)))
  .nil))))
 (.cons (.frz 2)
 (.cons (.ret (.var 2))
 .nil)))))),some ("steps_within",[1,3,1,2,0])⟩
noncomputable def bH:Def:=⟨["floor","walker","size","spot","block"],4,(.cons (.set 4 (.call "block_of" (.cons (.var 3) (.cons (.var 2) .nil))))
 (.cons (.ret (.compIf 1 [2,4] (.one 0) (.seq (.call "steps_from" (.cons (.var 0) (.cons (.var 1) (.cons (.var 3) .nil))))) (.cmp .ne (.call "block_of" (.cons (.sub (.var 0) (.cst (.int 0))) (.cons (.var 1) .nil))) (.var 2)) (.var 0)))
 .nil)),none⟩
noncomputable def cg:Def:=⟨["floor","walker","size","spot","stops","reached","within"],5,(.cons (.set 5 (.callL "spread@steps_within" (.cons (.lst (.cons (.var 3) .nil)) .nil) "steps_within" [1,3,1,2,0] [1,2,0]))
 (.cons (.set 6 (.compIf 1 [3,5] (.one 0) (.seq (.var 5)) (.cmp .ne (.var 0) (.var 1)) (.tup (.cons (.var 0) (.cons (.sub (.sub (.var 2) (.var 0)) (.cst (.int 0))) .nil)))))
 (.cons (.ret (.compIf 1 [4] (.one 0) (.seq (.bin .add (.var 6) (.call "steps_out" (.cons (.var 0) (.cons (.var 1) (.cons (.var 2) (.cons (.var 3) .nil))))))) (.cmp .in_ (.sub (.var 0) (.cst (.int 0))) (.var 1)) (.var 0)))
 .nil))),none⟩
noncomputable def ba:Def:=⟨["starts","steps","reached","waiting","start","spot","other","cost","together"],2,(.cons (.dnew 2)
 (.cons (.dnew 3)
 (.cons (.for_ (.one 4) (.seq (.var 0))
  (.cons (.put 3 (.var 4) (.tup (.cons (.cst (.int 0)) (.cons (.cst .non) .nil))))
  .nil))
 (.cons (.whl (.cmp .gt (.blt .len (.cons (.tmp 3) .nil)) (.cst (.int 0)))
  (.cons (.minK 5 3)
  (.cons (.putPop 2 3 5)
  (.cons (.for_ (.two 6 7) (.seq (.callv 1 (.cons (.var 5) .nil)))
   (.cons (.set 8 (.bin .add (.sub (.sub (.tmp 2) (.var 5)) (.cst (.int 0))) (.var 7)))
   (.cons (.ite (.and (.cmp .nin (.var 6) (.tmp 2)) (.or (.cmp .nin (.var 6) (.tmp 3)) (.cmp .lt (.var 8) (.sub (.sub (.tmp 3) (.var 6)) (.cst (.int 0))))))
    (.cons (.put 3 (.var 6) (.tup (.cons (.var 8) (.cons (.var 5) .nil))))
    .nil)
    .nil)
   .nil)))
  .nil))))
 (.cons (.frz 2)
 (.cons (.ret (.var 2))
 .nil)))))),some ("hops_from",[1,4,1,3,0,2])⟩
noncomputable def bZ:Def:=⟨["size"],1,(.cons (.ite (.or (.not (.call "is_whole" (.cons (.var 0) .nil))) (.not (.ch .le .le (.cst (.int 1)) (.var 0) (.glob "LONGEST" (.int 12)))))
 (.cons (.raise "NoSize" "the size is not a whole number from 1 to 12")
 .nil)
 .nil)
 .nil),none⟩
noncomputable def cI:Def:=⟨["floor","spots","row","signs","column","sign"],1,(.cons (.own 1 (.lst .nil))
 (.cons (.for_ (.two 2 3) (.enum (.var 0))
  (.cons (.for_ (.two 4 5) (.enum (.var 3))
   (.cons (.ite (.cmp .ne (.var 5) (.glob "WALL" (.str "#")))
    (.cons (.app 1 (.tup (.cons (.var 2) (.cons (.var 4) .nil))))
    .nil)
    .nil)
   .nil))
  .nil))
 (.cons (.frz 1)
 (.cons (.ret (.var 1))
 .nil)))),none⟩
noncomputable def fR:Def:=⟨["floor","walker","size"],3,(.cons (.expr (.call "need_size" (.cons (.var 2) .nil)))
 (.cons (.ret (.compIf 1 [1,2,0] (.one 0) (.seq (.call "open_spots" (.cons (.var 0) .nil))) (.cmp .gt (.blt .len (.cons (.call "steps_out" (.cons (.var 3) (.cons (.var 1) (.cons (.var 2) (.cons (.var 0) .nil))))) .nil)) (.cst (.int 0))) (.var 0)))
 .nil)),none⟩
noncomputable def cY:Def:=⟨["floor","walker","size","start","goal","stops","reached"],5,(.cons (.expr (.call "need_size" (.cons (.var 2) .nil)))
 (.cons (.expr (.call "need_open" (.cons (.var 0) (.cons (.var 3) .nil))))
 (.cons (.expr (.call "need_open" (.cons (.var 0) (.cons (.var 4) .nil))))
 (.cons (.set 5 (.bin .add (.call "gates" (.cons (.var 0) (.cons (.var 1) (.cons (.var 2) .nil)))) (.lst (.cons (.var 4) .nil))))
 (.cons (.set 6 (.callL "spread@hops_from" (.cons (.lst (.cons (.var 3) .nil)) .nil) "hops_from" [1,4,1,3,0,2] [1,5,2,0]))
 (.cons (.ite (.cmp .nin (.var 4) (.var 6))
  (.cons (.ret (.cst .non))
  .nil)
  .nil)
 (.cons (.ret (.tup (.cons (.sub (.sub (.var 6) (.var 4)) (.cst (.int 0))) (.cons (.lrev (.call "traced" (.cons (.var 6) (.cons (.var 4) .nil)))) .nil))))
 .nil))))))),none⟩
noncomputable def gK:Def:=⟨["floor","thing"],2,(.cons (.ite (.or (.not (.ty .tuple (.var 1))) (.cmp .ne (.blt .len (.cons (.var 1) .nil)) (.cst (.int 2))))
 (.cons (.ret (.cst (.bl false)))
 .nil)
 .nil)
 (.cons (.ret (.and (.call "is_open" (.cons (.var 0) (.cons (.sub (.var 1) (.cst (.int 0))) .nil))) (.and (.call "is_whole" (.cons (.sub (.var 1) (.cst (.int 1))) .nil)) (.cmp .ge (.sub (.var 1) (.cst (.int 1))) (.cst (.int 0))))))
 .nil)),none⟩
noncomputable def bY:Def:=⟨["floor","thing"],2,(.cons (.ite (.or (.not (.ty .list (.var 1))) (.not (.blt .all (.cons (.comp 1 [0] (.one 0) (.seq (.var 1)) (.call "is_entry" (.cons (.var 1) (.cons (.var 0) .nil)))) .nil))))
 (.cons (.ret (.cst (.bl false)))
 .nil)
 .nil)
 (.cons (.ret (.blt .all (.cons (.comp 2 [] (.two 0 1) (.zip (.var 1) (.slice (.var 1) (.some (.cst (.int 1))) .no)) (.cmp .lt (.sub (.var 0) (.cst (.int 0))) (.sub (.var 1) (.cst (.int 0))))) .nil)))
 .nil)),none⟩
noncomputable def cU:Def:=⟨["floor","walker","numbers","spot","other","cost"],4,(.cons (.for_ (.two 4 5) (.seq (.call "steps_to" (.cons (.var 0) (.cons (.var 1) (.cons (.var 3) .nil)))))
 (.cons (.ite (.or (.cmp .nin (.var 4) (.var 2)) (.cmp .gt (.sub (.var 2) (.var 4)) (.bin .add (.var 5) (.sub (.var 2) (.var 3)))))
  (.cons (.ret (.cst (.bl false)))
  .nil)
  .nil)
 .nil))
 (.cons (.ret (.cst (.bl true)))
 .nil)),none⟩
noncomputable def gH:Def:=⟨["floor","walker","goal","thing","numbers"],4,(.cons (.ite (.not (.call "has_rising_entries" (.cons (.var 0) (.cons (.var 3) .nil))))
 (.cons (.ret (.cst (.bl false)))
 .nil)
 .nil)
 (.cons (.set 4 (.blt .dict (.cons (.var 3) .nil)))
 (.cons (.ite (.or (.cmp .nin (.var 2) (.var 4)) (.cmp .ne (.sub (.var 4) (.var 2)) (.cst (.int 0))))
  (.cons (.ret (.cst (.bl false)))
  .nil)
  .nil)
 (.cons (.ret (.blt .all (.cons (.comp 1 [1,4,0] (.one 0) (.seq (.var 4)) (.call "keeps_steps_to" (.cons (.var 3) (.cons (.var 1) (.cons (.var 2) (.cons (.var 0) .nil)))))) .nil)))
 .nil)))),none⟩
noncomputable def eP:Def:=⟨["floor","walker","onward","spot"],2,(.cons (.dnew 2)
 (.cons (.for_ (.one 3) (.seq (.call "open_spots" (.cons (.var 0) .nil)))
  (.cons (.put 2 (.var 3) (.comp 1 [] (.one 0) (.seq (.call "steps_from" (.cons (.var 0) (.cons (.var 1) (.cons (.var 3) .nil))))) (.sub (.var 0) (.cst (.int 0)))))
  .nil))
 (.cons (.frz 2)
 (.cons (.ret (.var 2))
 .nil)))),none⟩
noncomputable def bT:Def:=⟨["starts","steps","reached","waiting","start","spot","other","cost","together"],2,(.cons (.dnew 2)
 (.cons (.dnew 3)
 (.cons (.for_ (.one 4) (.seq (.var 0))
  (.cons (.put 3 (.var 4) (.tup (.cons (.cst (.int 0)) (.cons (.cst .non) .nil))))
  .nil))
 (.cons (.whl (.cmp .gt (.blt .len (.cons (.tmp 3) .nil)) (.cst (.int 0)))
  (.cons (.minK 5 3)
  (.cons (.putPop 2 3 5)
  (.cons (.for_ (.two 6 7) (.seq (.callv 1 (.cons (.var 5) .nil)))
   (.cons (.set 8 (.bin .add (.sub (.sub (.tmp 2) (.var 5)) (.cst (.int 0))) (.var 7)))
   (.cons (.ite (.and (.cmp .nin (.var 6) (.tmp 2)) (.or (.cmp .nin (.var 6) (.tmp 3)) (.cmp .lt (.var 8) (.sub (.sub (.tmp 3) (.var 6)) (.cst (.int 0))))))
    (.cons (.put 3 (.var 6) (.tup (.cons (.var 8) (.cons (.var 5) .nil))))
    .nil)
    .nil)
   .nil)))
  .nil))))
 (.cons (.frz 2)
 (.cons (.ret (.var 2))
 .nil)))))),some ("steps_from",[1,2,1,0])⟩
noncomputable def d8:Def:=⟨["floor","walker","start"],3,(.cons (.expr (.call "need_open" (.cons (.var 0) (.cons (.var 2) .nil))))
 (.cons (.ret (.callL "spread@steps_from" (.cons (.lst (.cons (.var 2) .nil)) .nil) "steps_from" [1,2,1,0] [1,0]))
 .nil)),none⟩
def fE:Def:=⟨["floor","walker","spot"],3,(.cons (.ret (.blt .sorted (.cons (.call "spread_from" (.cons (.var 0) (.cons (.var 1) (.cons (.var 2) .nil)))) .nil)))
 .nil),none⟩
noncomputable def mS:Def:=⟨["floor","walker","found","placed","spot","room","member"],2,(.cons (.own 2 (.lst .nil))
 (.cons (.dnew 3)
 (.cons (.for_ (.one 4) (.seq (.call "open_spots" (.cons (.var 0) .nil)))
  (.cons (.ite (.cmp .nin (.var 4) (.tmp 3))
   (.cons (.set 5 (.call "room_with" (.cons (.var 0) (.cons (.var 1) (.cons (.var 4) .nil)))))
   (.cons (.app 2 (.var 5))
   (.cons (.for_ (.one 6) (.seq (.var 5))
    (.cons (.put 3 (.var 6) (.cst (.bl true)))
    .nil))
   .nil)))
   .nil)
  .nil))
 (.cons (.frz 2)
 (.cons (.ret (.var 2))
 .nil))))),none⟩
noncomputable def eQ:Def:=⟨["one","other","spot"],3,(.cons (.ret (.cmp .in_ (.var 2) (.tup (.cons (.var 0) (.cons (.var 1) (.cons (.tup (.cons (.sub (.var 0) (.cst (.int 0))) (.cons (.sub (.var 1) (.cst (.int 1))) .nil))) (.cons (.tup (.cons (.sub (.var 1) (.cst (.int 0))) (.cons (.sub (.var 0) (.cst (.int 1))) .nil))) .nil)))))))
 .nil),none⟩
noncomputable def dG:Def:=⟨["onward","start","wall","reached","waiting","one","other"],3,(.cons (.dnew1 3 1 true)
 (.cons (.own 4 (.lst (.cons (.var 1) .nil)))
 (.cons (.whl (.cmp .gt (.blt .len (.cons (.tmp 4) .nil)) (.cst (.int 0)))
  (.cons (.pop 5 4)
  (.cons (.for_ (.one 6) (.seq (.sub (.var 0) (.var 5)))
   (.cons (.ite (.and (.cmp .nin (.var 6) (.tmp 3)) (.not (.call "needs_open" (.cons (.var 5) (.cons (.var 6) (.cons (.var 2) .nil))))))
    (.cons (.put 3 (.var 6) (.cst (.bl true)))
    (.cons (.app 4 (.var 6))
    .nil))
    .nil)
   .nil))
  .nil)))
 (.cons (.frz 3)
 (.cons (.ret (.var 3))
 .nil))))),none⟩
noncomputable def fy:Def:=⟨["onward","room","spot","others"],3,(.cons (.set 3 (.compIf 1 [2] (.one 0) (.seq (.var 1)) (.cmp .ne (.var 0) (.var 1)) (.var 0)))
 (.cons (.ret (.and (.cmp .gt (.blt .len (.cons (.var 3) .nil)) (.cst (.int 0))) (.cmp .lt (.blt .len (.cons (.call "reached_past" (.cons (.var 0) (.cons (.sub (.var 3) (.cst (.int 0))) (.cons (.var 2) .nil)))) .nil)) (.blt .len (.cons (.var 3) .nil)))))
 .nil)),none⟩
noncomputable def dE:Def:=⟨["floor","walker","onward","narrow","room"],2,(.cons (.set 2 (.call "steps_over" (.cons (.var 0) (.cons (.var 1) .nil))))
 (.cons (.own 3 (.lst .nil))
 (.cons (.for_ (.one 4) (.seq (.call "rooms" (.cons (.var 0) (.cons (.var 1) .nil))))
  (.cons (.extd 3 (.compIf 1 [4,2] (.one 0) (.seq (.var 4)) (.call "is_narrow" (.cons (.var 2) (.cons (.var 1) (.cons (.var 0) .nil)))) (.var 0)))
  .nil))
 (.cons (.ret (.blt .sorted (.cons (.tmp 3) .nil)))
 .nil)))),none⟩
noncomputable def d_law:Def:=⟨["_law_script","_law_low","_law_up","_law_floor","_law_walker","_law_flat","_law_size","_law_start","_law_goal","_law_cost","_law_told","_law_row","_law_few","_law_number","_law_rooms_in","_law_held"],1,(.cons (.par 1 2 (.cons (.call "_law_pick" (.cons (.var 0) (.cons (.cst (.int 0)) (.cons (.cst (.int 6)) .nil)))) (.cons (.bin .add (.cst (.int 1)) (.call "_law_pick" (.cons (.var 0) (.cons (.cst (.int 1)) (.cons (.cst (.int 3)) .nil))))) .nil)))
 (.cons (.set 3 (.tup (.cons (.bin .add (.blt .str (.cons (.bin .add (.var 1) (.cst (.int 1))) .nil)) (.blt .str (.cons (.bin .add (.var 1) (.cst (.int 2))) .nil))) (.cons (.bin .add (.blt .str (.cons (.var 1) .nil)) (.blt .str (.cons (.bin .add (.var 1) (.cst (.int 3))) .nil))) .nil))))
 (.cons (.set 4 (.tup (.cons (.cst (.bl false)) (.cons (.bin .add (.cst (.int 3)) (.call "_law_pick" (.cons (.var 0) (.cons (.cst (.int 2)) (.cons (.cst (.int 7)) .nil))))) (.cons (.var 2) .nil)))))
 (.cons (.ite (.cmp .ne (.call "least_way" (.cons (.var 3) (.cons (.var 4) (.cons (.tup (.cons (.cst (.int 0)) (.cons (.cst (.int 0)) .nil))) (.cons (.tup (.cons (.cst (.int 1)) (.cons (.cst (.int 1)) .nil))) .nil))))) (.tup (.cons (.bin .add (.cst (.int 4)) (.bin .mul (.cst (.int 2)) (.var 2))) (.cons (.lst (.cons (.tup (.cons (.cst (.int 0)) (.cons (.cst (.int 0)) .nil))) (.cons (.tup (.cons (.cst (.int 0)) (.cons (.cst (.int 1)) .nil))) (.cons (.tup (.cons (.cst (.int 1)) (.cons (.cst (.int 1)) .nil))) .nil)))) .nil))))
  (.cons (.ret (.cst (.bl false)))
  .nil)
  .nil)
 (.cons (.ite (.cmp .ne (.call "cost_of" (.cons (.var 3) (.cons (.var 4) (.cons (.lst (.cons (.tup (.cons (.cst (.int 0)) (.cons (.cst (.int 0)) .nil))) (.cons (.tup (.cons (.cst (.int 1)) (.cons (.cst (.int 0)) .nil))) (.cons (.tup (.cons (.cst (.int 1)) (.cons (.cst (.int 1)) .nil))) .nil)))) .nil)))) (.bin .add (.cst (.int 4)) (.bin .mul (.cst (.int 3)) (.var 2))))
  (.cons (.ret (.cst (.bl false)))
  .nil)
  .nil)
 (.cons (.par 5 6 (.cons (.bin .mul (.tup (.cons (.bin .mul (.blt .str (.cons (.call "_law_pick" (.cons (.var 0) (.cons (.cst (.int 3)) (.cons (.cst (.int 10)) .nil)))) .nil)) (.cst (.int 4))) .nil)) (.cst (.int 6))) (.cons (.cst (.int 3)) .nil)))
 (.cons (.set 7 (.tup (.cons (.bin .add (.cst (.int 3)) (.call "_law_pick" (.cons (.var 0) (.cons (.cst (.int 4)) (.cons (.cst (.int 3)) .nil))))) (.cons (.call "_law_pick" (.cons (.var 0) (.cons (.cst (.int 5)) (.cons (.cst (.int 3)) .nil)))) .nil))))
 (.cons (.for_ (.one 8) (.seq (.lst (.cons (.sub (.tup (.cons (.tup (.cons (.cst (.int 4)) (.cons (.cst (.int 1)) .nil))) (.cons (.tup (.cons (.cst (.int 5)) (.cons (.cst (.int 0)) .nil))) (.cons (.tup (.cons (.cst (.int 5)) (.cons (.cst (.int 1)) .nil))) (.cons (.tup (.cons (.cst (.int 4)) (.cons (.cst (.int 0)) .nil))) (.cons (.tup (.cons (.cst (.int 5)) (.cons (.cst (.int 3)) .nil))) .nil)))))) (.call "_law_pick" (.cons (.var 0) (.cons (.cst (.int 8)) (.cons (.cst (.int 5)) .nil))))) .nil)))
  (.cons (.set 9 (.bin .add (.bin .mul (.cst (.int 2)) (.blt .abs (.cons (.bin .sub (.sub (.var 8) (.cst (.int 0))) (.sub (.var 7) (.cst (.int 0)))) .nil))) (.bin .mul (.cst (.int 2)) (.blt .abs (.cons (.bin .sub (.sub (.var 8) (.cst (.int 1))) (.sub (.var 7) (.cst (.int 1)))) .nil)))))
  (.cons (.set 10 (.call "by_gates" (.cons (.var 5) (.cons (.tup (.cons (.cst (.bl false)) (.cons (.cst (.int 0)) (.cons (.var 2) .nil)))) (.cons (.var 6) (.cons (.var 7) (.cons (.var 8) .nil)))))))
  (.cons (.ite (.or (.cmp .is (.var 10) (.cst .non)) (.or (.cmp .ne (.sub (.var 10) (.cst (.int 0))) (.var 9)) (.or (.cmp .ne (.sub (.sub (.var 10) (.cst (.int 1))) (.cst (.int 0))) (.var 7)) (.cmp .ne (.sub (.sub (.var 10) (.cst (.int 1))) (.neg (.cst (.int 1)))) (.var 8)))))
   (.cons (.ret (.cst (.bl false)))
   .nil)
   .nil)
  .nil))))
 (.cons (.par 11 12 (.cons (.tup (.cons (.cst (.str "00")) .nil)) (.cons (.tup (.cons (.cst (.bl false)) (.cons (.cst (.int 0)) (.cons (.var 2) .nil)))) .nil)))
 (.cons (.for_ (.one 13) (.seq (.tup (.cons (.neg (.cst (.int 1))) (.cons (.neg (.cst (.int 2))) (.cons (.bin .sub (.cst (.int 0)) (.var 2)) .nil)))))
  (.cons (.ite (.cmp .isn (.call "is_paper" (.cons (.var 11) (.cons (.var 12) (.cons (.tup (.cons (.cst (.int 0)) (.cons (.cst (.int 0)) .nil))) (.cons (.lst (.cons (.tup (.cons (.tup (.cons (.cst (.int 0)) (.cons (.cst (.int 0)) .nil))) (.cons (.cst (.int 0)) .nil))) (.cons (.tup (.cons (.tup (.cons (.cst (.int 0)) (.cons (.cst (.int 1)) .nil))) (.cons (.var 13) .nil))) .nil))) .nil))))) (.cst (.bl false)))
   (.cons (.ret (.cst (.bl false)))
   .nil)
   .nil)
  .nil))
 (.cons (.ite (.cmp .isn (.call "is_paper" (.cons (.var 11) (.cons (.var 12) (.cons (.tup (.cons (.cst (.int 0)) (.cons (.cst (.int 0)) .nil))) (.cons (.lst (.cons (.tup (.cons (.tup (.cons (.cst (.int 0)) (.cons (.cst (.int 0)) .nil))) (.cons (.cst (.int 0)) .nil))) (.cons (.tup (.cons (.tup (.cons (.cst (.int 0)) (.cons (.cst (.int 1)) .nil))) (.cons (.call "_law_pick" (.cons (.var 0) (.cons (.cst (.int 6)) (.cons (.cst (.int 3)) .nil)))) .nil))) .nil))) .nil))))) (.cst (.bl true)))
  (.cons (.ret (.cst (.bl false)))
  .nil)
  .nil)
 (.cons (.set 14 (.tup (.cons (.cst (.str "00000")) (.cons (.cst (.str "09990")) (.cons (.cst (.str "90009")) .nil)))))
 (.cons (.set 15 (.lst (.cons (.tup (.cons (.cst (.int 0)) (.cons (.cst (.int 0)) .nil))) (.cons (.tup (.cons (.cst (.int 0)) (.cons (.cst (.int 1)) .nil))) (.cons (.tup (.cons (.cst (.int 0)) (.cons (.cst (.int 2)) .nil))) (.cons (.tup (.cons (.cst (.int 0)) (.cons (.cst (.int 3)) .nil))) (.cons (.tup (.cons (.cst (.int 0)) (.cons (.cst (.int 4)) .nil))) (.cons (.tup (.cons (.cst (.int 1)) (.cons (.cst (.int 2)) .nil))) (.cons (.tup (.cons (.cst (.int 2)) (.cons (.cst (.int 2)) .nil))) .nil)))))))))
 (.cons (.ret (.cmp .eq (.call "narrow_spots" (.cons (.var 14) (.cons (.tup (.cons (.cst (.bl false)) (.cons (.call "_law_pick" (.cons (.var 0) (.cons (.cst (.int 7)) (.cons (.cst (.int 9)) .nil)))) (.cons (.var 2) .nil)))) .nil))) (.var 15)))
 .nil)))))))))))))),none⟩
def T0:List (Str×Def):=[]
noncomputable def T1:List (Str×Def):=(("_law_cell":Str),cC)::T0
noncomputable def T2:List (Str×Def):=(("_law_pick":Str),cD)::T1
noncomputable def T3:List (Str×Def):=(("is_whole":Str),cT)::T2
noncomputable def T4:List (Str×Def):=(("is_spot":Str),dz)::T3
noncomputable def T5:List (Str×Def):=(("is_on_floor":Str),bV)::T4
noncomputable def T6:List (Str×Def):=(("is_open":Str),cu)::T5
noncomputable def T7:List (Str×Def):=(("need_open":Str),bJ)::T6
noncomputable def T8:List (Str×Def):=(("are_beside":Str),cq)::T7
noncomputable def T9:List (Str×Def):=(("height_at":Str),cE)::T8
noncomputable def Gw:List (Str×Def):=(("has_open_corners":Str),bf)::T9
noncomputable def II:List (Str×Def):=(("step_cost":Str),bI)::Gw
noncomputable def zm:List (Str×Def):=(("open_spots_beside":Str),aY)::II
noncomputable def Nl:List (Str×Def):=(("steps_from":Str),bF)::zm
noncomputable def NG:List (Str×Def):=(("steps_to":Str),gE)::Nl
noncomputable def Mj:List (Str×Def):=(("spread@steps_to":Str),cj)::NG
noncomputable def Ko:List (Str×Def):=(("spread_to":Str),fG)::Mj
noncomputable def MI:List (Str×Def):=(("traced":Str),eC)::Ko
noncomputable def Nq:List (Str×Def):=(("least_way":Str),fM)::MI
noncomputable def MA:List (Str×Def):=(("is_list_of_open_spots":Str),bP)::Nq
noncomputable def L4:List (Str×Def):=(("costs_along":Str),d9)::MA
noncomputable def NP:List (Str×Def):=(("is_way":Str),jY)::L4
noncomputable def NB:List (Str×Def):=(("need_way":Str),gv)::NP
noncomputable def HR:List (Str×Def):=(("cost_of":Str),iM)::NB
noncomputable def Hv:List (Str×Def):=(("block_of":Str),cB)::HR
noncomputable def HF:List (Str×Def):=(("steps_within":Str),bx)::Hv
noncomputable def EC:List (Str×Def):=(("spread@steps_within":Str),aP)::HF
noncomputable def He:List (Str×Def):=(("steps_out":Str),bH)::EC
noncomputable def E7:List (Str×Def):=(("hops_from":Str),cg)::He
noncomputable def HG:List (Str×Def):=(("spread@hops_from":Str),ba)::E7
noncomputable def H8:List (Str×Def):=(("need_size":Str),bZ)::HG
noncomputable def Fh:List (Str×Def):=(("open_spots":Str),cI)::H8
noncomputable def Ba:List (Str×Def):=(("gates":Str),fR)::Fh
noncomputable def Nz:List (Str×Def):=(("by_gates":Str),cY)::Ba
noncomputable def NA:List (Str×Def):=(("is_entry":Str),gK)::Nz
noncomputable def MV:List (Str×Def):=(("has_rising_entries":Str),bY)::NA
noncomputable def MQ:List (Str×Def):=(("keeps_steps_to":Str),cU)::MV
noncomputable def MJ:List (Str×Def):=(("is_paper":Str),gH)::MQ
noncomputable def NX:List (Str×Def):=(("steps_over":Str),eP)::MJ
noncomputable def MD:List (Str×Def):=(("spread@steps_from":Str),bT)::NX
noncomputable def L9:List (Str×Def):=(("spread_from":Str),d8)::MD
noncomputable def L5:List (Str×Def):=(("room_with":Str),fE)::L9
noncomputable def N8:List (Str×Def):=(("rooms":Str),mS)::L5
noncomputable def M6:List (Str×Def):=(("needs_open":Str),eQ)::N8
noncomputable def Md:List (Str×Def):=(("reached_past":Str),dG)::M6
noncomputable def Mm:List (Str×Def):=(("is_narrow":Str),fy)::Md
noncomputable def kf:List (Str×Def):=(("narrow_spots":Str),dE)::Mm
theorem EW:den T1 "_law_cell"=ak (den T0) cC:=(az 0 (by decide+kernel)).trans aN
theorem FG:den T3 "is_whole"=ak (den T2) cT:=(az 0 (by decide+kernel)).trans aN
theorem GK:den T5 "is_spot"=ak (den T3) dz:=(az 1 (by decide+kernel)).trans aN
theorem Fe:den T5 "is_on_floor"=ak (den T4) bV:=(az 0 (by decide+kernel)).trans aN
theorem Fo:den T6 "is_open"=ak (den T5) cu:=(az 0 (by decide+kernel)).trans aN
theorem GV:den T8 "need_open"=ak (den T6) bJ:=(az 1 (by decide+kernel)).trans aN
theorem Gv:den T9 "is_open"=ak (den T5) cu:=(az 3 (by decide+kernel)).trans aN
theorem Dy:den Gw "are_beside"=ak (den T7) cq:=(az 2 (by decide+kernel)).trans aN
theorem zD:den Gw "has_open_corners"=ak (den T9) bf:=(az 0 (by decide+kernel)).trans aN
theorem Df:den Gw "height_at"=ak (den T8) cE:=(az 1 (by decide+kernel)).trans aN
theorem CF:den II "is_open"=ak (den T5) cu:=(az 5 (by decide+kernel)).trans aN
theorem D2:den zm "need_open"=ak (den T6) bJ:=(az 5 (by decide+kernel)).trans aN
theorem yO:den zm "open_spots_beside"=ak (den II) aY:=(az 0 (by decide+kernel)).trans aN
theorem zq:den zm "step_cost"=ak (den Gw) bI:=(az 1 (by decide+kernel)).trans aN
theorem zr:den Hv "block_of"=ak (den HR) cB:=(az 0 (by decide+kernel)).trans aN
theorem zG:den Hv "steps_from"=ak (den zm) bF:=(az 11 (by decide+kernel)).trans aN
theorem yK:den HF "steps_within"=ak (den Hv) bx:=(az 0 (by decide+kernel)).trans aN
theorem Ax:den EC "block_of"=ak (den HR) cB:=(az 2 (by decide+kernel)).trans aN
theorem A2:den EC "steps_from"=ak (den zm) bF:=(az 13 (by decide+kernel)).trans aN
theorem zI:den He "spread@steps_within"=ak (den HF) aP:=(az 1 (by decide+kernel)).trans aN
theorem yH:den He "steps_out"=ak (den EC) bH:=(az 0 (by decide+kernel)).trans aN
theorem AA:den E7 "hops_from"=ak (den He) cg:=(az 0 (by decide+kernel)).trans aN
theorem xN:den HG "is_whole"=ak (den T2) cT:=(az 26 (by decide+kernel)).trans aN
theorem za:den Fh "need_size"=ak (den HG) bZ:=(az 1 (by decide+kernel)).trans aN
theorem yw:den Fh "open_spots"=ak (den H8) cI:=(az 0 (by decide+kernel)).trans aN
theorem zM:den Fh "steps_out"=ak (den EC) bH:=(az 4 (by decide+kernel)).trans aN
theorem Ae:den Ba "need_size"=ak (den HG) bZ:=(az 2 (by decide+kernel)).trans aN
theorem Dz:den Ba "need_open"=ak (den T6) bJ:=(az 25 (by decide+kernel)).trans aN
theorem AS:den Ba "gates"=ak (den Fh) fR:=(az 0 (by decide+kernel)).trans aN
theorem zR:den Ba "spread@hops_from"=ak (den E7) ba:=(az 3 (by decide+kernel)).trans aN
theorem yZ:den Ba "traced"=ak (den Ko) eC:=(az 15 (by decide+kernel)).trans aN
theorem Cz:den kf "_law_pick"=ak (den T1) cD:=(az 44 (by decide+kernel)).trans aN
theorem yQ:den kf "by_gates"=ak (den Ba) cY:=(az 13 (by decide+kernel)).trans aN
end K98
namespace K98
open PySem L2 Ci KJ
abbrev sp(r c:Int):PV:=.tup [.int r,.int c]
abbrev rH(ns:List Int):PV:=.lst (ns.map .int)
theorem eJ(F:bj)(i:Int):ak F cT [.int i]=.ok (.bl true):=by rfl
theorem kK{α:Type}{xs:List α}{k:Nat}(h:k<xs.length):oj xs (k:Int)=some xs[k]:=by
 unfold oj Br;have:((k:Nat):Int)<(xs.length:Int):=by omega
 simp [this,h]
theorem sL{ns:List Int}{k:Int}(h0:0≤k)(h:k<ns.length):∃m,oj (ns.map PV.int) k=some (.int m):=by
 obtain⟨j,rfl⟩:=Int.eq_ofNat_of_zero_le h0
 refine⟨ns[j]'(by omega),?_⟩;rw [kK (k:=j) (by simp;omega)];simp
theorem vM(ns:List Int)(n:Nat):Ci.plain (n+1) (.lst (ns.map .int))=true:=by
 simp only [Ci.plain,List.all_eq_true,List.mem_map]
 rintro x ⟨i,_,rfl⟩
 cases n<;>rfl
theorem eq_nil(ns:List Int):iO (rH ns) (.lst [])=.ok (.bl (decide (ns=[]))):=by
 have e:rZ (rH ns)=true:=vM ns 8
 unfold iO;rw [e];cases ns<;>rfl
theorem yA(F:bj)(ns:List Int)(k:Int)(hk:0≤k):∃m,ak F cC [rH ns,.int k]=.ok (.int m):=by
 simp only [cC,ak,ai,aj,ax,bu,aA,aB,bU,bS,aF,aJ,aG,Nat.reduceAdd,Nat.reduceSub,reduceIte,J,List.length_map,eq_nil]
 by_cases h:k<(ns.length:Int)
 ·obtain⟨m,e⟩:=sL hk h
  refine⟨m,?_⟩;simp only [h,decide_true,ak,ai,aj,ax,bu,aA,aB,bU,bS,aF,aJ,aG,Nat.reduceAdd,Nat.reduceSub,reduceIte,J,aQ,e]
 ·simp only [h,decide_false,ak,ai,aj,ax,bu,aA,aB,bU,bS,aF,aJ,aG,Nat.reduceAdd,Nat.reduceSub,reduceIte,J,eq_nil];cases ns with
  |nil=>exact⟨0,rfl⟩
  |cons n ns=>
   have hl:(0:Int)<((n::ns).length:Int):=by simp only [List.length_cons];omega
   obtain⟨m,e⟩:=sL (ns:=n::ns) (k:=k%((n::ns).length:Int)) (Int.emod_nonneg _ (by omega)) (Int.emod_lt_of_pos _ hl)
   refine⟨m*31+k,?_⟩;have e3:(aO m||aO 31)=true:=by rw [Bool.or_eq_true];exact .inr (by decide)
   have e4:aQ (rH (n::ns)) (.int (k%((n::ns).length:Int)))=.ok (.int m):=by simp only [aQ,e];rfl
   have e5:decide ((n::ns)=[])=false:=rfl
   simp only [List.length_cons] at hl e4;simp only [e5,ak,ai,aj,ax,bu,aA,aB,bU,bS,aF,aJ,aG,Nat.reduceAdd,Nat.reduceSub,reduceIte,J,List.length_map,hl,e4,e3]
theorem AL(F:bj)(hc:∀ns k,0≤k→∃m,F "_law_cell" [rH ns,.int k]=.ok (.int m))(ns:List Int)(k q:Int)(hk:0≤k)(hq:0<q):∃m,ak F cD [rH ns,.int k,.int q]=.ok (.int m)∧0≤m∧m<q:=by
 obtain⟨m,e⟩:=hc ns k hk
 have s1:(aO 6151||aO (k+1))=true:=by rw [Bool.or_eq_true];exact .inl (by decide)
 have s2:(aO (m+6151*(k+1))||aO 40692)=true:=by rw [Bool.or_eq_true];exact .inr (by decide)
 have s3:(0:Int)<2147483399:=by decide
 have s4:(0:Int)<2147483629:=by decide
 have s5:(0:Int)<31∧(31:Int)<1073741824:=by decide
 have a0:=Int.emod_nonneg ((m+6151*(k+1))*40692) (b:=2147483399) (by decide)
 have a1:=Int.emod_lt_of_pos ((m+6151*(k+1))*40692) s3
 refine⟨((((m+6151*(k+1))*40692%2147483399)*((m+6151*(k+1))*40692%2147483399)+((m+6151*(k+1))*40692%2147483399)/31)%2147483629)%q,?_,Int.emod_nonneg _ (by omega),Int.emod_lt_of_pos _ hq⟩;generalize hd:(m+6151*(k+1))*40692%2147483399=d at a0 a1
 have s6:(aO d||aO d)=true:=by
  have:aO d=true:=by simp only [aO,Bool.and_eq_true,decide_eq_true_eq];omega
  rw [this];rfl
 simp only [cD,ak,ai,aj,ax,bu,aA,aB,bU,bS,aF,aJ,aG,Nat.reduceAdd,Nat.reduceSub,reduceIte,J,rH] at e⊢;simp only [e,ak,ai,aj,ax,bu,aA,aB,bU,bS,aF,aJ,aG,Nat.reduceAdd,Nat.reduceSub,reduceIte,J,s1,s2,s3,s4,s5,hd,s6,hq,and_self]
def rW(rows:List Str):Prop:=rows.length≤6∧∀z∈rows,z.length≤6
abbrev fl(rows:List Str):PV:=.tup (rows.map .str)
def cd(rows:List Str)(r c:Nat):Option Nat:=(rows[r]?).bind fun z=>z.cps.toList[c]?
def Fs(rows:List Str)(r c:Nat):Bool:=match cd rows r c with|some x=>x !=35|none=>false
def dn(rows:List Str)(r c:Int):Bool:=decide (0≤r)&&decide (0≤c)&&Fs rows r.toNat c.toNat
theorem qE(F:bj)(h:∀i,F "is_whole" [.int i]=.ok (.bl true))(r c:Int):ak F dz [sp r c]=.ok (.bl true):=by
 have e0:aQ (sp r c) (.int 0)=.ok (.int r):=rfl
 have e1:aQ (sp r c) (.int 1)=.ok (.int c):=rfl
 have e2:iO (.int ((2:Nat):Int)) (.int 2)=.ok (.bl true):=rfl
 simp only [dz,ak,ai,aj,ax,bu,aA,aB,bU,bS,aF,aJ,aG,Nat.reduceAdd,Nat.reduceSub,reduceIte,J,rk,h,e0,e1,e2]
theorem Fz(F:bj)(rows:List Str)(R:rW rows)(r c:Int):ak F bV [fl rows,sp r c]=.ok (.bl (decide (0≤r)&&decide (0≤c)&&(cd rows r.toNat c.toNat).isSome)):=by
 have e0:aQ (sp r c) (.int 0)=.ok (.int r):=rfl
 have e1:aQ (sp r c) (.int 1)=.ok (.int c):=rfl
 simp only [bV,ak,ai,aj,ax,bu,aA,aB,bU,bS,aF,aJ,aG,Nat.reduceAdd,Nat.reduceSub,reduceIte,J,rk,e0,e1,oJ,pL,List.length_map]
 by_cases h0:0≤r
 ·by_cases h1:r<(rows.length:Int)
  ·obtain⟨j,rfl⟩:=Int.eq_ofNat_of_zero_le h0
   have hj:j<rows.length:=by omega
   have e2:aQ (fl rows) (.int (j:Int))=.ok (.str rows[j]):=by
    simp only [aQ,fl];rw [kK (k:=j) (by simpa using hj)];simp [Res.of]
   have e3:(rows[j]).length≤fH:=Nat.le_trans (R.2 _ (List.getElem_mem hj)) (by decide)
   have e4:(rows[j]).cps.size=(rows[j]).length:=rfl
   simp only [h0,h1,decide_true,ak,ai,aj,ax,bu,aA,aB,bU,bS,aF,aJ,aG,Nat.reduceAdd,Nat.reduceSub,reduceIte,J,e2,e3]
   by_cases h2:0≤c
   ·obtain⟨i,rfl⟩:=Int.eq_ofNat_of_zero_le h2
    simp only [h2,decide_true,ak,ai,aj,ax,bu,aA,aB,bU,bS,aF,aJ,aG,Nat.reduceAdd,Nat.reduceSub,reduceIte,J,cd,Int.toNat_natCast,List.getElem?_eq_getElem hj,Option.bind_some,Bool.and_self,Bool.true_and,Res.ok.injEq,PV.bl.injEq];rw [Bool.eq_iff_iff];simp [e4]
   ·simp [ak,ai,aj,ax,bu,aA,aB,bU,bS,aF,aJ,aG,Nat.reduceAdd,Nat.reduceSub,reduceIte,J,h2]
  ·have:cd rows r.toNat c.toNat=none:=by
    unfold cd;rw [List.getElem?_eq_none (by omega)];rfl
   simp [ak,ai,aj,ax,bu,aA,aB,bU,bS,aF,aJ,aG,Nat.reduceAdd,Nat.reduceSub,reduceIte,J,h0,h1,this]
 ·simp [ak,ai,aj,ax,bu,aA,aB,bU,bS,aF,aJ,aG,Nat.reduceAdd,Nat.reduceSub,reduceIte,J,h0]
theorem DF{rows:List Str}{j:Nat}{z:Str}(h:rows[j]?=some z):aQ (fl rows) (.int (j:Int))=.ok (.str z):=by
 obtain⟨hj,rfl⟩:=List.getElem?_eq_some_iff.1 h
 simp only [aQ,fl];rw [kK (k:=j) (by simpa using hj)];simp [Res.of]
theorem zY{z:Str}{i x:Nat}(hz:z.length≤fH)(h:z.cps.toList[i]?=some x):aQ (.str z) (.int (i:Int))=.ok (.str ⟨#[x]⟩):=by
 obtain⟨hj,rfl⟩:=List.getElem?_eq_some_iff.1 h
 simp only [aQ,hz,if_true];rw [kK (k:=i) hj]
 rfl
theorem Bx{rows:List Str}(R:rW rows){j i x:Nat}(h:cd rows j i=some x):∃z,rows[j]?=some z∧aQ (fl rows) (.int (j:Int))=.ok (.str z)∧aQ (.str z) (.int (i:Int))=.ok (.str ⟨#[x]⟩):=by
 unfold cd at h;cases hz:rows[j]? with
 |none=>rw [hz] at h;cases h
 |some z=>
  rw [hz] at h;exact⟨z,rfl,DF hz,zY (Nat.le_trans (R.2 _ (List.mem_of_getElem? hz)) (by decide)) h⟩
theorem D1(x:Nat):iN (.str ⟨#[x]⟩) (.str "#")=.ok (.bl (x !=35)):=by
 have:(("#":Str))=⟨#[35]⟩:=by decide+kernel
 rw [this];show Res.ok (PV.bl (!((⟨#[x]⟩:Str)==⟨#[35]⟩)))=_
 congr 2
 rw [bne,Bool.eq_iff_iff];simp
theorem zi(F:bj)(hs:∀r c,F "is_spot" [sp r c]=.ok (.bl true))(ho:∀rows,rW rows→∀r c,F "is_on_floor" [fl rows,sp r c]=.ok (.bl (decide (0≤r)&&decide (0≤c)&&(cd rows r.toNat c.toNat).isSome)))
 (rows:List Str) (R:rW rows) (r c:Int):ak F cu [fl rows,sp r c]=.ok (.bl (dn rows r c)):=by
 have e0:aQ (sp r c) (.int 0)=.ok (.int r):=rfl
 have e1:aQ (sp r c) (.int 1)=.ok (.int c):=rfl
 simp only [cu,ak,ai,aj,ax,bu,aA,aB,bU,bS,aF,aJ,aG,Nat.reduceAdd,Nat.reduceSub,reduceIte,J,hs,ho rows R,e0,e1];unfold dn Fs
 by_cases h0:0≤r
 ·by_cases h1:0≤c
  ·obtain⟨j,rfl⟩:=Int.eq_ofNat_of_zero_le h0
   obtain⟨i,rfl⟩:=Int.eq_ofNat_of_zero_le h1
   simp only [h0,h1,decide_true,Bool.true_and,Bool.and_self,Int.toNat_natCast];cases hc:cd rows j i with
   |none=>simp [ak,ai,aj,ax,bu,aA,aB,bU,bS,aF,aJ,aG,Nat.reduceAdd,Nat.reduceSub,reduceIte,J]
   |some x=>
    obtain⟨z,_,e2,e3⟩:=Bx R hc
    simp only [Option.isSome_some,ak,ai,aj,ax,bu,aA,aB,bU,bS,aF,aJ,aG,Nat.reduceAdd,Nat.reduceSub,reduceIte,J,e2,e3,D1]
  ·simp [ak,ai,aj,ax,bu,aA,aB,bU,bS,aF,aJ,aG,Nat.reduceAdd,Nat.reduceSub,reduceIte,J,h1]
 ·simp [ak,ai,aj,ax,bu,aA,aB,bU,bS,aF,aJ,aG,Nat.reduceAdd,Nat.reduceSub,reduceIte,J,h0]
theorem nk(F:bj)(ho:∀rows,rW rows→∀r c,F "is_open" [fl rows,sp r c]=.ok (.bl (dn rows r c)))(rows:List Str)(R:rW rows)(r c:Int)(h:dn rows r c=true):ak F bJ [fl rows,sp r c]=.ok .non:=by
 simp only [bJ,ak,ai,aj,ax,bu,aA,aB,bU,bS,aF,aJ,aG,Nat.reduceAdd,Nat.reduceSub,reduceIte,J,ho rows R,h]
abbrev Bg(p:Int×Int):PV:=sp p.1 p.2
theorem sN{rows:List Str}{r c:Int}:dn rows r c=true↔0≤r∧0≤c∧Fs rows r.toNat c.toNat=true:=by
 simp only [dn,Bool.and_eq_true,decide_eq_true_eq,and_assoc]
structure Fl(rows:List Str)(w:Nat):Prop where
 rok:rW rows
 ne:0<rows.length
 w1:1≤w
 rect:∀z∈rows,z.length=w
 dig:∀z∈rows,∀x∈z.cps.toList,x=35∨(48≤x∧x≤57)
theorem aI{i:Int}:cR .abs [.int i]=.ok (.int (if i<0 then -i else i)):=id rfl
theorem mX{i j:Int}:cR .max2 [.int i,.int j]=.ok (.int (if j>i then j else i)):=id rfl
theorem Nx:cO .gt=qV:=id rfl
theorem Of{i j:Int}:qV (.int i) (.int j)=.ok (.bl (decide (j<i))):=id rfl
theorem MR:cO .is=rg:=id rfl
theorem HZ:cO .isn=eZ:=id rfl
theorem yR{v:Int}(h0:0≤v)(h1:v<10):cR .str [.int v]=.ok (.str ⟨#[48+v.toNat]⟩):=by
 have:v=0∨v=1∨v=2∨v=3∨v=4∨v=5∨v=6∨v=7∨v=8∨v=9:=by omega
 rcases this with rfl|rfl|rfl|rfl|rfl|rfl|rfl|rfl|rfl|rfl<;>(show Res.ok (PV.str _)=_;congr 2)
theorem An{x:Nat}(h0:48≤x)(h1:x≤57):cR .int [.str ⟨#[x]⟩]=.ok (.int ((x:Int)-48)):=by
 have:x=48∨x=49∨x=50∨x=51∨x=52∨x=53∨x=54∨x=55∨x=56∨x=57:=by omega
 have k:∀(y:Nat) (v:Int),PySem.intText? (⟨#[y]⟩:Str)=some v→cR .int [.str ⟨#[y]⟩]=.ok (.int v):=fun y v e=>by
  show(if(⟨#[y]⟩:Str).length≤640 then(Res.of (PySem.intText? (⟨#[y]⟩:Str))).bind fun n=>Res.ok (PV.int n) else .bad)=_
  rw [if_pos (show(⟨#[y]⟩:Str).length≤640 from(by show 1≤640;decide)),e]
  rfl
 rcases this with rfl|rfl|rfl|rfl|rfl|rfl|rfl|rfl|rfl|rfl<;>exact k _ _ (by decide+kernel)
end K98
namespace K98
open PySem L2 Ci KJ
def dj(rows:List Str)(r c:Int):Int:=match cd rows r.toNat c.toNat with
 |some x=>(x:Int)-48
 |none=>0
theorem wH{rows:List Str}{r c:Int}(h:dn rows r c=true):∃(i j x:Nat),r=i∧c=j∧cd rows i j=some x∧x≠35:=by
 obtain⟨h0,h1,h2⟩:=sN.1 h
 obtain⟨i,rfl⟩:=Int.eq_ofNat_of_zero_le h0
 obtain⟨j,rfl⟩:=Int.eq_ofNat_of_zero_le h1
 simp only [Int.toNat_natCast,Fs] at h2;cases hc:cd rows i j with
 |none=>rw [hc] at h2;cases h2
 |some x=>
  rw [hc] at h2;exact⟨i,j,x,rfl,rfl,hc,by simpa using h2⟩
theorem Cm{rows:List Str}{w:Nat}(L:Fl rows w){i j x:Nat}(h:cd rows i j=some x):x=35∨(48≤x∧x≤57):=by
 unfold cd at h;cases hz:rows[i]? with
 |none=>rw [hz] at h;cases h
 |some z=>
  rw [hz] at h;exact L.dig z (List.mem_of_getElem? hz) x (List.mem_of_getElem? h)
theorem DE{rows:List Str}{w:Nat}(L:Fl rows w){r c:Int}(h:dn rows r c=true):∃z x,aQ (fl rows) (.int r)=.ok (.str z)∧aQ (.str z) (.int c)=.ok (.str ⟨#[x]⟩)∧cR .int [.str ⟨#[x]⟩]=.ok (.int (dj rows r c))∧0≤dj rows r c∧dj rows r c≤9:=by
 obtain⟨i,j,x,rfl,rfl,hc,hx⟩:=wH h
 obtain⟨z,_,e1,e2⟩:=Bx L.rok hc
 have hd:=(Cm L hc).resolve_left hx
 have hh:dj rows i j=(x:Int)-48:=by simp only [dj,Int.toNat_natCast,hc]
 refine⟨z,x,e1,e2,?_,?_⟩
 ·rw [hh];exact An hd.1 hd.2
 ·rw [hh];omega
noncomputable def dq(rows:List Str)(sl:Bool)(cl pr:Int)(r c r' c':Int):Option Int:=
 if(r=r'∧c=c')∨1<r-r'∨1<r'-r∨1<c-c'∨1<c'-c then none
 else if(r≠r'∧c≠c')∧¬(sl=true∧dn rows r c'=true∧dn rows r' c=true) then none
 else if cl<dj rows r' c'-dj rows r c∨cl<dj rows r c-dj rows r' c' then none
 else some ((if r≠r'∧c≠c' then 3 else 2)+pr*(if dj rows r' c'-dj rows r c>0 then dj rows r' c'-dj rows r c else 0))
def oP:Option Int→PV
 |none=>.non
 |some i=>.int i
abbrev wk(sl:Bool)(cl pr:Int):PV:=.tup [.bl sl,.int cl,.int pr]
theorem Hr{r c:Int}:aQ (sp r c) (.int 0)=.ok (.int r):=id rfl
theorem Hm{r c:Int}:aQ (sp r c) (.int 1)=.ok (.int c):=id rfl
theorem MM{sl:Bool}{cl pr:Int}:aQ (wk sl cl pr) (.int 0)=.ok (.bl sl):=id rfl
theorem ND{sl:Bool}{cl pr:Int}:aQ (wk sl cl pr) (.int 1)=.ok (.int cl):=id rfl
theorem Mz{sl:Bool}{cl pr:Int}:aQ (wk sl cl pr) (.int 2)=.ok (.int pr):=id rfl
theorem nI{i j:Int}:iN (.int i) (.int j)=.ok (.bl (!(i==j))):=id rfl
theorem eI{i j:Int}:iO (.int i) (.int j)=.ok (.bl (i==j)):=id rfl
theorem nS{r c r' c':Int}:iN (sp r c) (sp r' c')=.ok (.bl (!((r==r')&&((c==c')&&true)))):=id rfl
theorem eS{r c r' c':Int}:iO (sp r c) (sp r' c')=.ok (.bl ((r==r')&&((c==c')&&true))):=id rfl
noncomputable def J2:=And.intro @Hr (And.intro @Hm (And.intro @MM (And.intro @ND (And.intro @Mz (And.intro @aI (And.intro @mX (And.intro @Nx (And.intro @Of (And.intro @nI (And.intro @eI (And.intro @nS (And.intro @eS (And.intro @MR (And.intro @HZ (And.intro @KO (@Le))))))))))))))))
def far(r c r' c':Int):Prop:=(r=r'∧c=c')∨1<r-r'∨1<r'-r∨1<c-c'∨1<c'-c
instance(r c r' c':Int):Decidable (far r c r' c'):=by unfold far;infer_instance
theorem tV(F:bj)(r c r' c':Int):ak F cq [sp r c,sp r' c']=.ok (.bl (!decide (far r c r' c'))):=by
 simp only [cq,ak,ai,aj,ax,bu,aA,aB,bU,bS,aF,aJ,aG,Nat.reduceAdd,Nat.reduceSub,reduceIte,J,Hr,Hm,aI,nS];have key:∀(a b d:Bool),(Res.ok (PV.bl a)).bind (fun x=>rb x fun t=>if t then(Res.ok (PV.bl b)).bind (fun x=>rb x fun t=>if t then Res.ok (PV.bl d) else Res.ok (PV.bl false)) else Res.ok (PV.bl false))=Res.ok (PV.bl (a&&(b&&d))):=by
  intro a b d;cases a<;>cases b<;>cases d<;>rfl
 by_cases h1:r=r'∧c=c'
 ·obtain⟨rfl,rfl⟩:=h1
  have:far r c r c:=.inl ⟨rfl,rfl⟩
  simp [ak,ai,aj,ax,bu,aA,aB,bU,bS,aF,aJ,aG,Nat.reduceAdd,Nat.reduceSub,reduceIte,J,this]
 ·have b1:(!((r==r')&&((c==c')&&true)))=true:=by
   cases hh:((r==r')&&((c==c')&&true)) with
   |false=>rfl
   |true=>exact absurd (by simpa using hh) h1
  simp only [b1,ak,ai,aj,ax,bu,aA,aB,bU,bS,aF,aJ,aG,Nat.reduceAdd,Nat.reduceSub,reduceIte,J]
  by_cases h2:(if r-r'<0 then -(r-r') else r-r')≤1
  ·by_cases h3:(if c-c'<0 then -(c-c') else c-c')≤1
   ·have:¬far r c r' c':=by
     rintro (h|h|h|h|h)
     ·exact h1 h
     all_goals (split at h2<;>split at h3<;>omega)
    simp only [h2,h3,this,decide_true,decide_false,ak,ai,aj,ax,bu,aA,aB,bU,bS,aF,aJ,aG,Nat.reduceAdd,Nat.reduceSub,reduceIte,J]
   ·have:far r c r' c':=by
     unfold far;split at h3<;>omega
    simp only [h2,h3,this,decide_true,decide_false,ak,ai,aj,ax,bu,aA,aB,bU,bS,aF,aJ,aG,Nat.reduceAdd,Nat.reduceSub,reduceIte,J]
  ·have:far r c r' c':=by
    unfold far;split at h2<;>omega
   simp only [h2,this,decide_true,decide_false,ak,ai,aj,ax,bu,aA,aB,bU,bS,aF,aJ,aG,Nat.reduceAdd,Nat.reduceSub,reduceIte,J]
def qy(F:bj):Prop:=∀rows,rW rows→∀r c,F "is_open" [fl rows,sp r c]=.ok (.bl (dn rows r c))
theorem uU(F:bj)(hn:∀rows,rW rows→∀r c,dn rows r c=true→F "need_open" [fl rows,sp r c]=.ok .non){rows:List Str}{w:Nat}(L:Fl rows w){r c:Int}(h:dn rows r c=true):ak F cE [fl rows,sp r c]=.ok (.int (dj rows r c)):=by
 obtain⟨z,x,e1,e2,e3,_⟩:=DE L h
 simp only [cE,ak,ai,aj,ax,bu,aA,aB,bU,bS,aF,aJ,aG,Nat.reduceAdd,Nat.reduceSub,reduceIte,J,hn rows L.rok r c h,Hr,Hm,e1,e2,e3]
theorem qW(F:bj)(ho:qy F){rows:List Str}(R:rW rows)(r c r' c':Int):ak F bf [fl rows,sp r c,sp r' c']=.ok (.bl (dn rows r c'&&dn rows r' c)):=by
 simp only [bf,ak,ai,aj,ax,bu,aA,aB,bU,bS,aF,aJ,aG,Nat.reduceAdd,Nat.reduceSub,reduceIte,J,Hr,Hm,ho rows R];cases dn rows r c'<;>simp only [ak,ai,aj,ax,bu,aA,aB,bU,bS,aF,aJ,aG,Nat.reduceAdd,Nat.reduceSub,reduceIte,J,Bool.false_and,Bool.true_and]
theorem uN{i j:Int}(h0:0≤i)(h1:i<4):(aO i||aO j)=true:=by
 have:aO i=true:=by simp only [aO,Bool.and_eq_true,decide_eq_true_eq];omega
 rw [this];rfl
structure Wk(cl pr:Int):Prop where
 c0:0≤cl
 p0:0≤pr
 p4:pr<4
 c9:cl≤9
theorem zN(F:bj)(hb:∀r c r' c',F "are_beside" [sp r c,sp r' c']=.ok (.bl (!decide (far r c r' c'))))(hk:∀rows,rW rows→∀r c r' c',F "has_open_corners" [fl rows,sp r c,sp r' c']=.ok (.bl (dn rows r c'&&dn rows r' c)))
 (hh:∀rows w,Fl rows w→∀r c,dn rows r c=true→F "height_at" [fl rows,sp r c]=.ok (.int (dj rows r c))) {rows:List Str} {w:Nat} (L:Fl rows w) {sl:Bool} {cl pr:Int} (V:Wk cl pr) {r c r' c':Int} (h:dn rows r c=true) (h':dn rows r' c'=true):
 ak F bI [fl rows,wk sl cl pr,sp r c,sp r' c']=.ok (oP (dq rows sl cl pr r c r' c')):=by
 have e1:=hh rows w L r c h
 have e2:=hh rows w L r' c' h'
 have e3:=hk rows L.rok r c r' c'
 have e4:=hb r c r' c'
 by_cases h1:far r c r' c'
 ·have:dq rows sl cl pr r c r' c'=none:=if_pos h1
  simp only [bI,ak,ai,aj,ax,bu,aA,aB,bU,bS,aF,aJ,aG,Nat.reduceAdd,Nat.reduceSub,reduceIte,J,J2,e4,h1,decide_true,this,oP]
 ·have q1:dq rows sl cl pr r c r' c'=_:=if_neg h1
  rw [q1];have ms:=fun j=>uN (j:=j) V.p0 V.p4
  obtain⟨s,hs⟩:∃s,((!(r==r'))&&!(c==c'))=s:=⟨_,rfl⟩
  have Hy:s=true↔r≠r'∧c≠c':=by rw [←hs];simp
  have ia:∀{t u:Bool},(if t=true then Res.ok (PV.bl u) else Res.ok (PV.bl false))=Res.ok (PV.bl (t&&u)):=fun{t u}=>by cases t<;>rfl
  have ii:(if s=true then Res.ok (PV.int 3) else Res.ok (PV.int 2))=Res.ok (PV.int (if r≠r'∧c≠c' then 3 else 2)):=by
   by_cases n3:r≠r'∧c≠c'
   ·rw [if_pos (Hy.2 n3),if_pos n3]
   ·rw [if_neg (fun z=>n3 (Hy.1 z)),if_neg n3]
  have mx:(if(0:Int)>dj rows r' c'-dj rows r c then 0 else dj rows r' c'-dj rows r c)=(if dj rows r' c'-dj rows r c>0 then dj rows r' c'-dj rows r c else 0):=by
   split<;>split<;>omega
  have cc:(if sl=true then Res.ok (PV.bl (dn rows r c'&&dn rows r' c)) else Res.ok (PV.bl false))=Res.ok (PV.bl (sl&&(dn rows r c'&&dn rows r' c))):=ia
  by_cases hblk:(r≠r'∧c≠c')∧¬(sl=true∧dn rows r c'=true∧dn rows r' c=true)
  ·rw [if_pos hblk];have hB:(!(sl&&(dn rows r c'&&dn rows r' c)))=true:=by
    rw [Bool.not_eq_true',Bool.eq_false_iff];intro z;rw [Bool.and_eq_true,Bool.and_eq_true] at z;exact hblk.2 z
   simp only [bI,ak,ai,aj,ax,bu,aA,aB,bU,bS,aF,aJ,aG,Nat.reduceAdd,Nat.reduceSub,reduceIte,J,J2,e4,e3,h1,decide_false,ia,hs,Hy.2 hblk.1,hB,Bool.and_self,oP]
  ·rw [if_neg hblk];have hB:(s&&!(sl&&(dn rows r c'&&dn rows r' c)))=false:=by
    rw [Bool.eq_false_iff];intro z;rw [Bool.and_eq_true,Bool.not_eq_true',Bool.eq_false_iff] at z;exact hblk ⟨Hy.1 z.1,fun y=>z.2 (by rw [Bool.and_eq_true,Bool.and_eq_true];exact y)⟩
   by_cases hq:cl<(if dj rows r' c'-dj rows r c<0 then -(dj rows r' c'-dj rows r c) else dj rows r' c'-dj rows r c)
   ·have hz:cl<dj rows r' c'-dj rows r c∨cl<dj rows r c-dj rows r' c':=by split at hq<;>omega
    simp only [bI,ak,ai,aj,ax,bu,aA,aB,bU,bS,aF,aJ,aG,Nat.reduceAdd,Nat.reduceSub,reduceIte,J,J2,e4,e3,e1,e2,h1,decide_false,ia,hs,hB,oP,hq,decide_true,if_pos hz]
   ·have hz:¬(cl<dj rows r' c'-dj rows r c∨cl<dj rows r c-dj rows r' c'):=by split at hq<;>omega
    simp only [bI,ak,ai,aj,ax,bu,aA,aB,bU,bS,aF,aJ,aG,Nat.reduceAdd,Nat.reduceSub,reduceIte,J,J2,e4,e3,e1,e2,h1,decide_false,ia,hs,hB,oP,hq,if_neg hz,ii,ms,mx]
theorem Cj{rows:List Str}{w:Nat}(L:Fl rows w){r c:Int}(h:dn rows r c=true):0≤r∧r<rows.length∧0≤c∧c<w:=by
 obtain⟨i,j,x,rfl,rfl,hc,_⟩:=wH h
 unfold cd at hc;cases hz:rows[i]? with
 |none=>rw [hz] at hc;cases hc
 |some z=>
  rw [hz] at hc;have h1:=(List.getElem?_eq_some_iff.1 hz).1
  have h2:=(List.getElem?_eq_some_iff.1 hc).1
  have hl:=L.rect _ (List.mem_of_getElem? hz)
  simp only [Array.length_toList] at h2;have:z.cps.size=z.length:=rfl
  omega
end K98
namespace K98
open PySem L2 Ci KJ
theorem ip{α σ:Type}{body:PV→Sl→Res Ci.Fl}{g:α→PV}{mk:List PV→σ→Sl}{app:α→List PV}{m M:Nat}:∀(l:List α) (acc:List PV) (s:σ),(∀a∈l,(app a).length≤m)→(∀a∈l,∀acc s,acc.length+m≤M→∃s',body (g a) (mk acc s)=.ok (.nx (mk (acc++app a) s')))→acc.length+m*l.length≤M→∃s',forL body (l.map g) (mk acc s)=.ok (.nx (mk (acc++l.flatMap app) s'))
 |[],acc,s,_,_,_=>⟨s,by simp [forL]⟩
 |a::l,acc,s,h1,h2,h3=>by
  have ha:=h1 a (List.mem_cons_self ..)
  rw [List.length_cons,Nat.mul_succ] at h3;obtain⟨s1,e1⟩:=h2 a (List.mem_cons_self ..) acc s (by omega)
  obtain⟨s2,e2⟩:=ip l (acc++app a) s1 (fun b hb=>h1 b (List.mem_cons_of_mem _ hb)) (fun b hb=>h2 b (List.mem_cons_of_mem _ hb)) (by rw [List.length_append];omega)
  refine⟨s2,?_⟩;simp only [List.map_cons,forL,e1,Bj,e2,List.flatMap_cons,List.append_assoc]
def fN(x:Int):List Int:=[x-1+(0:Nat),x-1+(1:Nat),x-1+(2:Nat)]
theorem F0(x:Int):mC (x-1) (x+2-(x-1)).toNat=(fN x).map .int:=by
 rw [show(x+2-(x-1)).toNat=3 by omega]
 rfl
noncomputable def oI:Ss:=(.cons (.ite (.and (.cmp .ne (.tup (.cons (.var 3) (.cons (.var 4) .nil))) (.var 1)) (.call "is_open" (.cons (.var 0) (.cons (.tup (.cons (.var 3) (.cons (.var 4) .nil))) .nil))))
 (.cons (.app 2 (.tup (.cons (.var 3) (.cons (.var 4) .nil))))
 .nil)
 .nil)
 .nil)
noncomputable def oO:Ss:=(.cons (.for_ (.one 4) (.rng2 (.bin .sub (.sub (.var 1) (.cst (.int 1))) (.cst (.int 1))) (.bin .add (.sub (.var 1) (.cst (.int 1))) (.cst (.int 2)))) oI) .nil)
def yq(rows:List Str)(r c r' c':Int):Bool:=!((r'==r)&&((c'==c)&&true))&&dn rows r' c'
def pA(rows:List Str)(r c r':Int):List (Int×Int):=(fN c).flatMap fun c'=>if yq rows r c r' c' then [(r',c')] else []
def m6(rows:List Str)(r c:Int):List (Int×Int):=(fN r).flatMap (pA rows r c)
theorem hX(rows:List Str)(r c r':Int):(pA rows r c r').length≤3:=by
 have:∀c',(if yq rows r c r' c' then [(r',c')] else []).length≤1:=fun c'=>by split<;>simp
 simp only [pA,fN,List.flatMap_cons,List.flatMap_nil,List.length_append,List.length_nil];have h1:=this (c-1+(0:Nat));have h2:=this (c-1+(1:Nat));have h3:=this (c-1+(2:Nat))
 omega
theorem oU(rows:List Str)(r c:Int):(m6 rows r c).length≤9:=by
 simp only [m6,fN,List.flatMap_cons,List.flatMap_nil,List.length_append,List.length_nil];have h1:=hX rows r c (r-1+(0:Nat));have h2:=hX rows r c (r-1+(1:Nat));have h3:=hX rows r c (r-1+(2:Nat))
 omega
theorem km{rows:List Str}{r c r' c':Int}:(r',c')∈m6 rows r c↔¬far r c r' c'∧dn rows r' c'=true:=by
 have hn:∀x y:Int,y∈fN x↔¬1<x-y∧¬1<y-x:=by
  intro x y;simp only [fN,List.mem_cons,List.not_mem_nil,or_false];omega
 simp only [m6,pA,List.mem_flatMap,hn]
 constructor
 ·rintro ⟨a,ha,b,hb,h⟩
  split at h
  ·rename_i hk;simp only [List.mem_singleton,Prod.mk.injEq] at h;obtain⟨rfl,rfl⟩:=h
   simp only [yq,Bool.and_eq_true,Bool.not_eq_true',Bool.and_true] at hk;refine⟨?_,hk.2⟩;unfold far;have h1:=hk.1
   rw [Bool.and_eq_false_iff] at h1;simp only [beq_eq_false_iff_ne,ne_eq] at h1;omega
  ·cases h
 ·rintro ⟨hf,ho⟩
  unfold far at hf;refine⟨r',by omega,c',by omega,?_⟩;have:yq rows r c r' c'=true:=by
   simp only [yq,ho,Bool.and_true,Bool.not_eq_true',Bool.and_eq_false_iff,beq_eq_false_iff_ne,ne_eq];omega
  rw [if_pos this];exact List.mem_singleton.2 rfl
theorem kP{r:Int}(h0:0≤r)(h6:r<6):(bG (r-1)&&bG (r+2))=true:=by
 simp only [bG,Bool.and_eq_true,decide_eq_true_eq];omega
theorem C8(F:bj)(ho:qy F){rows:List Str}(R:rW rows){r c:Int}(Od:0≤r)(hr:r<6)(NS:0≤c)(hc:c<6):
 ak F aY [fl rows,sp r c]=.ok (.lst ((m6 rows r c).map Bg)):=by
 have inner:∀(r':Int) (acc:List PV) (s4:Ci.Slot),acc.length+3≤50→∃Jn,forL (fun x env=>((Tg.one 4).put x env).bind fun aH=>ax F oI aH) ((fN c).map .int) [.val (fl rows),.val (sp r c),.own (.lst acc),.val (.int r'),s4]=.ok (.nx [.val (fl rows),.val (sp r c),.own (.lst (acc++(pA rows r c r').map Bg)),.val (.int r'),Jn]):=by
  intro r' acc s4 hl;obtain⟨s',e⟩:=ip (body:=fun x env=>((Tg.one 4).put x env).bind fun aH=>ax F oI aH) (g:=PV.int) (mk:=fun acc (s:Ci.Slot)=>[.val (fl rows),.val (sp r c),.own (.lst acc),.val (.int r'),s]) (app:=fun c'=>if yq rows r c r' c' then [sp r' c'] else []) (m:=1) (M:=60) (fN c) acc s4 (fun c' _=>by split<;>simp) (fun c' _ acc s hl=>by
   have l:acc.length<fH:=Nat.lt_of_le_of_lt (m:=60) (by omega) (by decide)
   refine⟨.val (.int c'),?_⟩;cases h1:(!((r'==r)&&((c'==c)&&true))) with
   |false=>simp only [oI,ak,ai,aj,ax,bu,aA,aB,bU,bS,aF,aJ,aG,Nat.reduceAdd,Nat.reduceSub,reduceIte,J,J2,h1,yq,Bool.false_and,List.append_nil]
   |true=>
    cases h2:dn rows r' c' with
    |false=>simp only [oI,ak,ai,aj,ax,bu,aA,aB,bU,bS,aF,aJ,aG,Nat.reduceAdd,Nat.reduceSub,reduceIte,J,J2,h1,h2,yq,ho rows R,Bool.and_false,List.append_nil]
    |true=>simp only [oI,ak,ai,aj,ax,bu,aA,aB,bU,bS,aF,aJ,aG,Nat.reduceAdd,Nat.reduceSub,reduceIte,J,J2,h1,h2,yq,ho rows R,Bool.and_self,l]) (by show acc.length+1*3≤60;omega)
  have k:(fN c).flatMap (fun c'=>if yq rows r c r' c' then [sp r' c'] else [])=(pA rows r c r').map Bg:=by
   simp only [pA,List.map_flatMap]
   congr 1
   funext c'
   split<;>rfl
  exact⟨s',by rw [e,k]⟩
 obtain⟨s',e⟩:=ip (body:=fun x env=>((Tg.one 3).put x env).bind fun aH=>ax F oO aH) (g:=PV.int) (mk:=fun acc (s:Ci.Slot×Ci.Slot)=>[.val (fl rows),.val (sp r c),.own (.lst acc),s.1,s.2]) (app:=fun r'=>(pA rows r c r').map Bg) (m:=3) (M:=50) (fN r) [] (.no,.no) (fun r' _=>by rw [List.length_map];exact hX ..) (fun r' _ acc s hl=>by
  obtain⟨Jn,e⟩:=inner r' acc s.2 hl
  refine⟨(.val (.int r'),Jn),?_⟩;simp only [oI,ak,ai,aj,ax,bu,aA,aB,bU,bS,aF,aJ,aG,Nat.reduceAdd,Nat.reduceSub,reduceIte,J,J2] at e;simp only [oO,oI,ak,ai,aj,ax,bu,aA,aB,bU,bS,aF,aJ,aG,Nat.reduceAdd,Nat.reduceSub,reduceIte,J,J2,kP NS hc,F0,e]) (by show 0+3*3≤50;omega)
 simp only [oO,oI,ak,ai,aj,ax,bu,aA,aB,bU,bS,aF,aJ,aG,Nat.reduceAdd,Nat.reduceSub,reduceIte,J,J2] at e;simp only [aY,ak,ai,aj,ax,bu,aA,aB,bU,bS,aF,aJ,aG,Nat.reduceAdd,Nat.reduceSub,reduceIte,J,J2,kP Od hr,F0,e,ES,m6,List.map_flatMap]
def E1(rows:List Str)(sl:Bool)(cl pr:Int)(u v:List Int)(e:Int):Prop:=∃r c r' c',u=[r,c]∧v=[r',c']∧dn rows r c=true∧dn rows r' c'=true∧dq rows sl cl pr r c r' c'=some e
abbrev tK(t:List Int×Int):PV:=.tup [ah t.1,.int t.2]
def wg(F:bj):Prop:=∀rows w,Fl rows w→∀sl cl pr,Wk cl pr→∀r c r' c',dn rows r c=true→dn rows r' c'=true→F "step_cost" [fl rows,wk sl cl pr,sp r c,sp r' c']=.ok (oP (dq rows sl cl pr r c r' c'))
def Bh(F:bj):Prop:=∀rows,rW rows→∀r c,0≤r→r<6→0≤c→c<6→F "open_spots_beside" [fl rows,sp r c]=.ok (.lst ((m6 rows r c).map Bg))
def vR(F:bj):Prop:=∀rows,rW rows→∀r c,dn rows r c=true→F "need_open" [fl rows,sp r c]=.ok .non
noncomputable def jw(rows:List Str)(sl:Bool)(cl pr r c:Int):List (List Int×Int):=(m6 rows r c).flatMap fun p=>(dq rows sl cl pr r c p.1 p.2).toList.map fun e=>([p.1,p.2],e)
noncomputable def HA:Ss:=(.cons (.set 5 (.call "step_cost" (.cons (.var 0) (.cons (.var 1) (.cons (.var 2) (.cons (.var 4) .nil))))))
 (.cons (.ite (.cmp .isn (.var 5) (.cst .non))
  (.cons (.app 3 (.tup (.cons (.var 4) (.cons (.var 5) .nil))))
  .nil)
  .nil)
 .nil))
theorem FF{rows:List Str}{w:Nat}(L:Fl rows w){r c:Int}(h:dn rows r c=true):0≤r∧r<6∧0≤c∧c<6:=by
 have h1:=Cj L h
 have h2:=L.rok.1
 have h3:=L.rok.2 _ (List.getElem_mem L.ne)
 rw [L.rect _ (List.getElem_mem L.ne)] at h3;omega
theorem w4(F:bj)(hn:vR F)(hb:Bh F)(hs:wg F):∀rows w,Fl rows w→∀sl cl pr,Wk cl pr→∀r c,dn rows r c=true→ak F bF [fl rows,wk sl cl pr,ah [r,c]]=.ok (.lst ((jw rows sl cl pr r c).map tK)):=by
 intro rows w L sl cl pr V r c h;obtain⟨r0,r6,c0,c6⟩:=FF L h
 have HP:∀p:Int×Int,((dq rows sl cl pr r c p.1 p.2).toList.map fun e=>(([p.1,p.2]:List Int),e)).length≤1:=fun p=>by cases dq rows sl cl pr r c p.1 p.2<;>simp
 obtain⟨s',e⟩:=ip (body:=fun x env=>((Tg.one 4).put x env).bind fun aH=>ax F HA aH) (g:=Bg) (mk:=fun acc (s:Ci.Slot×Ci.Slot)=>[.val (fl rows),.val (wk sl cl pr),.val (sp r c),.own (.lst acc),s.1,s.2]) (app:=fun p=>((dq rows sl cl pr r c p.1 p.2).toList.map fun e=>(([p.1,p.2]:List Int),e)).map tK) (m:=1) (M:=50) (m6 rows r c) [] (.no,.no) (fun p _=>by rw [List.length_map];exact HP p) (fun p hp acc s hl=>by
  have l:acc.length<fH:=Nat.lt_of_le_of_lt (m:=50) (by omega) (by decide)
  have e:=hs rows w L sl cl pr V r c p.1 p.2 h (km.1 hp).2
  cases hq:dq rows sl cl pr r c p.1 p.2 with
  |none=>
   rw [hq] at e;have e5:eZ .non .non=.ok (.bl false):=rfl
   simp only [oP] at e;exact⟨(.val (Bg p),.val .non),by simp only [HA,ak,ai,aj,ax,bu,aA,aB,bU,bS,aF,aJ,aG,Nat.reduceAdd,Nat.reduceSub,reduceIte,J,J2,e,e5,Option.toList_none,List.append_nil]⟩
  |some v=>
   rw [hq] at e;have e5:eZ (.int v) .non=.ok (.bl true):=rfl
   simp only [oP] at e;exact⟨(.val (Bg p),.val (.int v)),by simp only [HA,ak,ai,aj,ax,bu,aA,aB,bU,bS,aF,aJ,aG,Nat.reduceAdd,Nat.reduceSub,reduceIte,J,J2,e,e5,Option.toList_some,l];rfl⟩) (by
  have:=oU rows r c
  show 0+1*_≤50
  omega)
 have k:ah [r,c]=sp r c:=rfl
 simp only [HA,ak,ai,aj,ax,bu,aA,aB,bU,bS,aF,aJ,aG,Nat.reduceAdd,Nat.reduceSub,reduceIte,J,J2] at e;simp only [k,bF,ak,ai,aj,ax,bu,aA,aB,bU,bS,aF,aJ,aG,Nat.reduceAdd,Nat.reduceSub,reduceIte,J,J2,hn rows L.rok r c h,hb rows L.rok r c r0 r6 c0 c6,e,ES,jw,List.map_flatMap]
theorem qu(rows:List Str)(sl:Bool)(cl pr r c:Int):(jw rows sl cl pr r c).length≤9:=by
 have:=oU rows r c
 have HP:∀p:Int×Int,((dq rows sl cl pr r c p.1 p.2).toList.map fun e=>(([p.1,p.2]:List Int),e)).length≤1:=fun p=>by cases dq rows sl cl pr r c p.1 p.2<;>simp
 have key:∀l:List (Int×Int),(l.flatMap fun p=>(dq rows sl cl pr r c p.1 p.2).toList.map fun e=>(([p.1,p.2]:List Int),e)).length≤l.length:=by
  intro l
  induction l with
  |nil=>exact Nat.le_refl _
  |cons p l ih=>
   have:=HP p
   simp only [List.flatMap_cons,List.length_append,List.length_cons];omega
 exact Nat.le_trans (key _) this
theorem qO{rows:List Str}{sl:Bool}{cl pr r c:Int}(h:dn rows r c=true)(v:List Int)(e:Int):(v,e)∈jw rows sl cl pr r c↔E1 rows sl cl pr [r,c] v e:=by
 unfold jw;simp only [List.mem_flatMap,List.mem_map,Option.mem_toList,Option.mem_def,Prod.mk.injEq]
 constructor
 ·rintro ⟨p,hp,e',he,rfl,rfl⟩
  exact⟨r,c,p.1,p.2,rfl,rfl,h,(km.1 hp).2,he⟩
 ·rintro ⟨a,b,r',c',hu,rfl,_,ho,he⟩
  cases hu;refine⟨(r',c'),km.2 ⟨fun hf=>?_,ho⟩,e,he,rfl,rfl⟩
  rw [show dq rows sl cl pr r c r' c'=none from if_pos hf] at he;cases he
end K98
namespace K98
open PySem L2 Ci KJ
theorem ko:∀k:List Int,intsOf (k.map .int)=some k
 |[]=>rfl
 |i::k=>by simp only [List.map_cons,intsOf,ko k,Option.map_some]
theorem fL(k:List Int):f9 (ah k)=some k:=ko k
theorem cm{α:Type}:∀{ks:List (List Int)} {vs:List α} (k:List Int),ks.length=vs.length→cK ks k=(av ks vs k).isSome
 |[],[],_,_=>rfl
 |k'::ks,v::vs,k,h=>by
  have ih:=cm (ks:=ks) (vs:=vs) k (by simpa using h)
  by_cases e:k'=k
  ·simp [cK,av,e]
  ·simp only [cK] at ih;simp [cK,av,e,ih]
theorem kC{α β:Type}(f:α→β):∀(ks:List (List Int)) (vs:List α) (k:List Int),av ks (vs.map f) k=(av ks vs k).map f
 |[],_,_=>by simp [av]
 |_::_,[],_=>by simp [av]
 |k'::ks,v::vs,k=>by
  simp only [List.map_cons,av,kC f ks vs k];split<;>rfl
theorem jq{α β:Type}(f:α→β):∀(ks:List (List Int)) (vs:List α) (k:List Int),aR ks (vs.map f) k=(aR ks vs k).map f
 |[],_,_=>by simp [aR]
 |_::_,[],_=>by simp [aR]
 |k'::ks,v::vs,k=>by
  simp only [List.map_cons,aR,jq f ks vs k];split<;>rfl
theorem mw{α β:Type}(f:α→β)(ks:List (List Int))(vs:List α)(k:List Int)(p:α):bq ks (vs.map f) k (f p)=(bq ks vs k p).map f:=by
 unfold bq;split
 ·rw [List.zipWith_map_right,List.map_zipWith]
  congr 1
  funext a b
  split<;>rfl
 ·simp
theorem pB{α:Type}(k:List Int)(p:α):∀(ks:List (List Int)) (vs:List α) (x:List Int),av ks (List.zipWith (fun k' v=>if k'=k then p else v) ks vs) x=(av ks vs x).map fun v=>if x=k then p else v
 |[],_,_=>by simp [av]
 |_::_,[],_=>by simp [av]
 |k'::ks,v::vs,x=>by
  simp only [List.zipWith_cons_cons,av,pB k p ks vs x]
  by_cases e:k'=x
  ·subst e;simp
  ·simp [e]
theorem lU{α:Type}(k:List Int)(p:α):∀(ks:List (List Int)) (vs:List α) (x:List Int),ks.length=vs.length→av (ks++[k]) (vs++[p]) x=(av ks vs x).or (if k=x then some p else none)
 |[],[],x,_=>by simp [av]
 |k'::ks,v::vs,x,h=>by
  simp only [List.cons_append,av,lU k p ks vs x (by simpa using h)];split<;>simp
theorem bp{α:Type}{ks:List (List Int)}{vs:List α}(h:ks.length=vs.length)(k:List Int)(p:α)(x:List Int):av (bt ks k) (bq ks vs k p) x=if k=x then some p else av ks vs x:=by
 have hh:=cm (vs:=vs) k h
 unfold bt bq;cases hk:cK ks k with
 |true=>
  rw [hk] at hh;simp only [if_true,pB]
  by_cases e:k=x
  ·subst e;obtain⟨v,hv⟩:=Option.isSome_iff_exists.1 hh.symm
   simp [hv]
  ·rw [if_neg e];have e':¬x=k:=fun z=>e z.symm
   cases av ks vs x<;>simp [e']
 |false=>
  rw [hk] at hh;simp only [Bool.false_eq_true,if_false,lU k p ks vs x h]
  by_cases e:k=x
  ·subst e;have:av ks vs k=none:=by simpa using hh.symm
   simp [this]
  ·simp [e]
theorem pO{α:Type}{ks:List (List Int)}{vs:List α}(h:ks.length=vs.length)(k:List Int)(p:α):(bt ks k).length=(bq ks vs k p).length:=by
 unfold bt bq;split<;>simp [h]
theorem um(ks:List (List Int))(k:List Int):(bt ks k).length≤ks.length+1:=by
 unfold bt;split<;>simp
theorem eF{ks:List (List Int)}{k:List Int}:cK ks k=true↔k∈ks:=by
 simp [cK]
theorem i7{ks:List (List Int)}(h:ks.Nodup)(k:List Int):(bt ks k).Nodup:=by
 unfold bt;split
 ·exact h
 ·rename_i hk;rw [eF] at hk;refine List.nodup_append.2 ⟨h,by simp,?_⟩;intro a ha b hb e;rw [List.mem_singleton] at hb;exact hk (hb▸e▸ha)
theorem dy{α:Type}(k:List Int):∀(ks:List (List Int)) (vs:List α) (x:List Int),ks.length=vs.length→av (bL ks k) (aR ks vs k) x=if k=x then none else av ks vs x
 |[],[],x,_=>by simp [bL,aR,av]
 |k'::ks,v::vs,x,h=>by
  have ih:=dy k ks vs x (by simpa using h)
  simp only [bL] at ih
  by_cases e:k'=k
  ·subst e;simp only [bL,aR,av,List.filter_cons,ne_eq,not_true_eq_false,decide_false,Bool.false_eq_true,if_false,if_true,ih];split<;>simp_all
  ·simp only [bL,aR,av,List.filter_cons,ne_eq,e,not_false_eq_true,decide_true,if_true,if_false]
   by_cases e2:k'=x
   ·subst e2;have:¬k=k':=fun z=>e z.symm
    simp [av,this]
   ·simp only [av,e2,if_false];exact ih
theorem mf{α:Type}(k:List Int):∀(ks:List (List Int)) (vs:List α),ks.length=vs.length→(bL ks k).length=(aR ks vs k).length
 |[],[],_=>rfl
 |k'::ks,v::vs,h=>by
  have ih:=mf k ks vs (by simpa using h)
  simp only [bL] at ih
  by_cases e:k'=k
  ·simpa [bL,aR,e] using ih
  ·simpa [bL,aR,e] using ih
theorem sd{α:Type}:∀{ks:List (List Int)} {vs:List α} {i:Nat} {k:List Int} {q:α},ks.Nodup→ks[i]?=some k→vs[i]?=some q→av ks vs k=some q
 |[],_,_,_,_,_,h,_=>by simp at h
 |_::_,[],_,_,_,_,_,h=>by simp at h
 |k'::ks,v::vs,0,k,q,_,h1,h2=>by
  simp only [List.getElem?_cons_zero,Option.some.injEq] at h1 h2;simp [av,h1,h2]
 |k'::ks,v::vs,i+1,k,q,nd,h1,h2=>by
  simp only [List.getElem?_cons_succ] at h1 h2;have Ku:=List.nodup_cons.1 nd
  have:¬k'=k:=fun z=>Ku.1 (z▸List.mem_of_getElem? h1)
  simp only [av,this,if_false];exact sd Ku.2 h1 h2
theorem oA{α:Type}:∀{ks:List (List Int)} {vs:List α} {k:List Int} {q:α},av ks vs k=some q→q∈vs
 |[],_,_,_,h=>by simp [av] at h
 |_::_,[],_,_,h=>by simp [av] at h
 |k'::ks,v::vs,k,q,h=>by
  simp only [av] at h;split at h
  ·cases h;exact List.mem_cons_self ..
  ·exact List.mem_cons_of_mem _ (oA h)
theorem iL:∀(cs:List Int) (b:Nat) (m:Int) (pre:List Int),pre[b]?=some m→(∀x∈pre,m≤x)→∃y,(pre++cs)[dW cs pre.length b m]?=some y∧∀x∈pre++cs,y≤x
 |[],b,m,pre,h1,h2=>⟨m,by simpa [dW] using h1,by simpa using h2⟩
 |c::cs,b,m,pre,h1,h2=>by
  have hb:=(List.getElem?_eq_some_iff.1 h1).1
  simp only [dW];have hl:pre.length+1=(pre++[c]).length:=by simp
  split
  ·rename_i hc;have:=iL cs pre.length c (pre++[c]) (by simp) (fun x hx=>by
    simp only [List.mem_append,List.mem_singleton] at hx;rcases hx with hx|hx
    ·have:=h2 x hx;omega
    ·omega)
   rw [←hl] at this
   simpa using this
  ·rename_i hc;have:=iL cs b m (pre++[c]) (by rw [List.getElem?_append_left hb];exact h1) (fun x hx=>by
    simp only [List.mem_append,List.mem_singleton] at hx;rcases hx with hx|hx
    ·exact h2 x hx
    ·omega)
   rw [←hl] at this
   simpa using this
theorem zZ{cs:List Int}(h:cs≠[]):∃i y,xm cs=some i∧cs[i]?=some y∧∀x∈cs,y≤x:=by
 cases cs with
 |nil=>exact absurd rfl h
 |cons c cs=>
  obtain⟨y,h1,h2⟩:=iL cs 0 c [c] rfl (by simp)
  exact⟨_,y,rfl,h1,h2⟩
abbrev val(q:Int×PV):PV:=.tup [.int q.1,q.2]
theorem lM:∀V:List (Int×PV),gG (V.map val)=some (V.map (·.1))
 |[]=>rfl
 |q::V=>by simp only [List.map_cons,gG,lM V,Option.map_some]
theorem uy{ks:List (List Int)}{V:List (Int×PV)}(h:ks.length=V.length)(nd:ks.Nodup)(fc:ks≠[]):∃k q,((xm (V.map (·.1))).bind fun x=>ks[x]?)=some k∧av ks V k=some q∧∀x q',av ks V x=some q'→q.1≤q'.1:=by
 have hV:V.map (·.1)≠[]:=by
  intro z;rw [List.map_eq_nil_iff] at z;rw [z] at h;exact fc (List.eq_nil_of_length_eq_zero h)
 obtain⟨i,y,h1,h2,h3⟩:=zZ hV
 rw [List.getElem?_map,Option.map_eq_some_iff] at h2;obtain⟨q,hq,rfl⟩:=h2
 have hi:=(List.getElem?_eq_some_iff.1 hq).1
 have hk:ks[i]?=some (ks[i]'(by omega)):=List.getElem?_eq_getElem _
 refine⟨_,q,by rw [h1];exact hk,sd nd hk hq,fun x q' hx=>h3 _ (List.mem_map.2 ⟨q',oA hx,rfl⟩)⟩
end K98
namespace K98
open PySem L2 Ci KJ
inductive Bz(E:List Int→List Int→Int→Prop)(s:List Int):List Int→Int→Prop
 |here:Bz E s s 0
 |go {u v:List Int} {d e:Int}:Bz E s u d→E u v e→Bz E s v (d+e)
abbrev Ks:=List (List Int)
abbrev Vs:=List (Int×PV)
def Kn(kr:Ks)(Vr:Vs)(kw:Ks)(Vw:Vs)(k:List Int)(c:Int):Prop:=(∃q,av kr Vr k=some q∧q.1≤c)∨∃q,av kw Vw k=some q∧q.1≤c
structure oq(E:List Int→List Int→Int→Prop)(O:List Int→Prop)(s:List Int)(kr:Ks)(Vr:Vs)(kw:Ks)(Vw:Vs)(X:List Int→List Int→Int→Prop)(n:Nat)(b:Int):Prop where
 lr:kr.length=Vr.length
 lw:kw.length=Vw.length
 nw:kw.Nodup
 dis:∀k q q',av kr Vr k=some q→av kw Vw k=some q'→False
 wr:∀k q,av kr Vr k=some q→O k∧Bz E s k q.1
 ww:∀k q,av kw Vw k=some q→O k∧Bz E s k q.1
 mono:∀k q k' q',av kr Vr k=some q→av kw Vw k'=some q'→q.1≤q'.1
 clo:∀u q,av kr Vr u=some q→∀v e,X u v e→Kn kr Vr kw Vw v (q.1+e)
 st:Kn kr Vr kw Vw s 0
 cw:kw.length≤n
 pre:∀k q,av kr Vr k=some q∨av kw Vw k=some q→(q.2=.non∧k=s)∨∃y q',q.2=ah y∧av kr Vr y=some q'∧q'.1<q.1
 bd:∀k q,av kr Vr k=some q∨av kw Vw k=some q→0≤q.1∧q.1≤b
 nr:kr.Nodup
theorem Kn.put{kr:Ks}{Vr:Vs}{kw:Ks}{Vw:Vs}(h:kw.length=Vw.length){v:List Int}{c:Int}{p:PV}(hv:∀q,av kw Vw v=some q→c≤q.1){k:List Int}{x:Int}(H:Kn kr Vr kw Vw k x):Kn kr Vr (bt kw v) (bq kw Vw v (c,p)) k x:=by
 rcases H with H|⟨q,h1,h2⟩
 ·exact .inl H
 ·refine .inr ?_;rw [bp h]
  by_cases e:v=k
  ·subst e;exact⟨(c,p),if_pos rfl,Int.le_trans (hv q h1) h2⟩
  ·exact⟨q,by rw [if_neg e];exact h1,h2⟩
theorem oq.put{E:List Int→List Int→Int→Prop}{O:List Int→Prop}{s:List Int}{kr:Ks}{Vr:Vs}{kw:Ks}{Vw:Vs}{X:List Int→List Int→Int→Prop}{n:Nat}{b:Int}(M:oq E O s kr Vr kw Vw X n b){u v:List Int}{d e:Int}{p0:PV}(hu:av kr Vr u=some (d,p0))(hd:∀k q,av kr Vr k=some q→q.1≤d)(he:E u v e)(h0:0<e)(hb:d+e≤b)(ho:O v)
 (hv:av kr Vr v=none) (hw:∀q,av kw Vw v=some q→d+e≤q.1):oq E O s kr Vr (bt kw v) (bq kw Vw v (d+e,ah u)) (fun a b c=>X a b c∨a=u∧b=v∧c=e) (n+1) b where
 lr:=M.lr
 lw:=pO M.lw _ _
 nw:=i7 M.nw _
 dis:=fun k q q' h1 h2=>by
  rw [bp M.lw] at h2;split at h2
  ·rename_i z;subst z;rw [hv] at h1;cases h1
  ·exact M.dis k q q' h1 h2
 wr:=M.wr
 ww:=fun k q h=>by
  rw [bp M.lw] at h;split at h
  ·rename_i z;subst z;cases h;exact⟨ho,.go (M.wr u _ hu).2 he⟩
  ·exact M.ww k q h
 mono:=fun k q k' q' h1 h2=>by
  rw [bp M.lw] at h2;split at h2
  ·cases h2;have:=hd k q h1;show q.1≤d+e;omega
  ·exact M.mono k q k' q' h1 h2
 clo:=fun a q h1 b c hx=>by
  rcases hx with hx|⟨rfl,rfl,rfl⟩
  ·exact(M.clo a q h1 b c hx).put M.lw hw
  ·rw [hu] at h1;cases h1;exact .inr ⟨(d+c,ah a),by rw [bp M.lw,if_pos rfl],Int.le_refl _⟩
 st:=M.st.put M.lw hw
 cw:=by have:=um kw v;have:=M.cw;omega
 pre:=fun k q h=>by
  rcases h with h|h
  ·exact M.pre k q (.inl h)
  ·rw [bp M.lw] at h;split at h
   ·cases h;exact .inr ⟨u,(d,p0),rfl,hu,by show d<d+e;omega⟩
   ·exact M.pre k q (.inr h)
 bd:=fun k q h=>by
  rcases h with h|h
  ·exact M.bd k q (.inl h)
  ·rw [bp M.lw] at h;split at h
   ·cases h;have:=(M.bd u _ (.inl hu)).1;exact⟨by show 0≤d+e;omega,hb⟩
   ·exact M.bd k q (.inr h)
 nr:=M.nr
theorem oq.keep{E:List Int→List Int→Int→Prop}{O:List Int→Prop}{s:List Int}{kr:Ks}{Vr:Vs}{kw:Ks}{Vw:Vs}{X Y:List Int→List Int→Int→Prop}{n m:Nat}{b b':Int}(M:oq E O s kr Vr kw Vw X n b)(hm:n≤m)(hb:b≤b')(h:∀u q,av kr Vr u=some q→∀v e,Y u v e→Kn kr Vr kw Vw v (q.1+e)):oq E O s kr Vr kw Vw Y m b':=
 ⟨M.lr,M.lw,M.nw,M.dis,M.wr,M.ww,M.mono,h,M.st,Nat.le_trans M.cw hm,M.pre,fun k q z=>⟨(M.bd k q z).1,Int.le_trans (M.bd k q z).2 hb⟩,M.nr⟩
theorem Kn.move{kr:Ks}{Vr:Vs}{kw:Ks}{Vw:Vs}(hr:kr.length=Vr.length)(hw:kw.length=Vw.length){k:List Int}{q0:Int×PV}(h0:av kw Vw k=some q0)(hk:av kr Vr k=none){x:List Int}{c:Int}(H:Kn kr Vr kw Vw x c):Kn (bt kr k) (bq kr Vr k q0) (bL kw k) (aR kw Vw k) x c:=by
 unfold Kn;rw [bp hr,dy k kw Vw x hw]
 by_cases e:k=x
 ·subst e;rcases H with⟨q,h1,_⟩|⟨q,h1,h2⟩
  ·rw [hk] at h1;cases h1
  ·rw [h0] at h1;cases h1;exact .inl ⟨q0,if_pos rfl,h2⟩
 ·simp only [e,if_false];exact H
theorem oq.move{E:List Int→List Int→Int→Prop}{O:List Int→Prop}{s:List Int}{kr:Ks}{Vr:Vs}{kw:Ks}{Vw:Vs}{n:Nat}{b:Int}(M:oq E O s kr Vr kw Vw E n b){k:List Int}{q0:Int×PV}(h0:av kw Vw k=some q0)(hl:∀x q',av kw Vw x=some q'→q0.1≤q'.1):
 oq E O s (bt kr k) (bq kr Vr k q0) (bL kw k) (aR kw Vw k) (fun a b c=>E a b c∧a≠k) n b∧av (bt kr k) (bq kr Vr k q0) k=some q0∧∀x q,av (bt kr k) (bq kr Vr k q0) x=some q→q.1≤q0.1:=by
 have hk:av kr Vr k=none:=by
  cases h:av kr Vr k with
  |none=>rfl
  |some q=>exact(M.dis k q q0 h h0).elim
 have old:∀x q,av (bt kr k) (bq kr Vr k q0) x=some q∨av (bL kw k) (aR kw Vw k) x=some q→av kr Vr x=some q∨av kw Vw x=some q:=fun x q h=>by
  rcases h with h|h
  ·rw [bp M.lr] at h;split at h
   ·rename_i z;subst z;cases h;exact .inr h0
   ·exact .inl h
  ·rw [dy k kw Vw x M.lw] at h;split at h
   ·cases h
   ·exact .inr h
 refine⟨?_,by rw [bp M.lr,if_pos rfl],fun x q h=>?_⟩
 ·refine⟨pO M.lr _ _,mf k kw Vw M.lw,M.nw.filter _,fun x q q' h1 h2=>?_,fun x q h=>?_,fun x q h=>?_,fun x q x' q' h1 h2=>?_,fun u q h1 v e hx=>?_,M.st.move M.lr M.lw h0 hk,Nat.le_trans (List.length_filter_le ..) M.cw,fun x q h=>?_,fun x q h=>M.bd x q (old x q h),i7 M.nr _⟩
  ·rw [bp M.lr] at h1;rw [dy k kw Vw x M.lw] at h2;split at h2
   ·cases h2
   ·rename_i z;rw [if_neg z] at h1;exact M.dis x q q' h1 h2
  ·rw [bp M.lr] at h;split at h
   ·rename_i z;subst z;cases h;exact M.ww k _ h0
   ·exact M.wr x q h
  ·rw [dy k kw Vw x M.lw] at h;split at h
   ·cases h
   ·exact M.ww x q h
  ·rw [bp M.lr] at h1;rw [dy k kw Vw x' M.lw] at h2;split at h2
   ·cases h2
   ·split at h1
    ·cases h1;exact hl x' q' h2
    ·exact M.mono x q x' q' h1 h2
  ·rw [bp M.lr,if_neg (fun z=>hx.2 z.symm)] at h1;exact(M.clo u q h1 v e hx.1).move M.lr M.lw h0 hk
  ·rcases M.pre x q (old x q h) with z|⟨y,q',z1,z2,z3⟩
   ·exact .inl z
   ·refine .inr ⟨y,q',z1,?_,z3⟩;rw [bp M.lr,if_neg (fun z=>by rw [←z,hk] at z2;cases z2)];exact z2
 ·rw [bp M.lr] at h;split at h
  ·cases h;exact Int.le_refl _
  ·exact M.mono x q k q0 h h0
theorem vS{ks:Ks}{V:Vs}{k:List Int}{q:Int×PV}(h:av ks V k=some q):aQ (.dct ks (V.map val)) (ah k)=.ok (val q):=by
 show(Res.of (f9 (ah k))).bind (fun k=>Res.of (av ks (V.map val) k))=_
 rw [fL];show Res.of (av ks (V.map val) k)=_
 rw [kC,h]
 rfl
theorem uK{q:Int×PV}:aQ (val q) (.int 0)=.ok (.int q.1):=id rfl
theorem ya{ks:Ks}{vs:List PV}{k:List Int}:jZ (ah k) (.dct ks vs)=.ok (.bl (!cK ks k)):=by
 show(Res.of (f9 (ah k))).bind (fun k=>Res.ok (PV.bl (!cK ks k)))=_
 rw [fL]
 rfl
theorem IE{ks:Ks}{vs:List PV}:cR .len [.dct ks vs]=.ok (.int ks.length):=id rfl
noncomputable def wS:Ss:=(.cons (.set 8 (.bin .add (.sub (.sub (.tmp 2) (.var 5)) (.cst (.int 0))) (.var 7)))
 (.cons (.ite (.and (.cmp .nin (.var 6) (.tmp 2)) (.or (.cmp .nin (.var 6) (.tmp 3)) (.cmp .lt (.var 8) (.sub (.sub (.tmp 3) (.var 6)) (.cst (.int 0))))))
  (.cons (.put 3 (.var 6) (.tup (.cons (.var 8) (.cons (.var 5) .nil))))
  .nil)
  .nil)
 .nil))
noncomputable abbrev pq(gn:Str)(ix:List Nat)(cp:List PV)(z:PV)(kr:Ks)(Vr:Vs)(kw:Ks)(Vw:Vs)(s4 s5 s6 s7 s8:Ci.Slot):Sl:=[.val z,.fn gn ix cp,.own (.dct kr (Vr.map val)),.own (.dct kw (Vw.map val)),s4,s5,s6,s7,s8]
theorem rO(kw:Ks)(Vw:Vs)(v:List Int)(c:Int)(p:PV):bq kw (Vw.map val) v (.tup [.int c,p])=(bq kw Vw v (c,p)).map val:=mw val kw Vw v (c,p)
theorem Fd(F:bj){gn:Str}{ix:List Nat}{cp:List PV}{z:PV}{E:List Int→List Int→Int→Prop}{O:List Int→Prop}{s:List Int}{kr:Ks}{Vr:Vs}{kw:Ks}{Vw:Vs}{X:List Int→List Int→Int→Prop}{n:Nat}{b:Int}(M:oq E O s kr Vr kw Vw X n b)(hn:n≤3000){u v:List Int}{d e:Int}{p0:PV}(hu:av kr Vr u=some (d,p0))(hd:∀k q,av kr Vr k=some q→q.1≤d)(he:E u v e)(h0:0<e)(hb:d+e≤b)(ho:O v)(s4 s6 s7 s8:Ci.Slot):
 ∃Bt Bo DZ Ef BK,(((Tg.two 6 7).put (tK (v,e)) (pq gn ix cp z kr Vr kw Vw s4 (.val (ah u)) s6 s7 s8)).bind fun aH=>ax F wS aH)=.ok (.nx (pq gn ix cp z kr Vr Bt Bo s4 (.val (ah u)) DZ Ef BK))∧oq E O s kr Vr Bt Bo (fun a b c=>X a b c∨a=u∧b=v∧c=e) (n+1) b:=by
 have e1:=vS hu
 have l:kw.length<fH:=Nat.lt_of_le_of_lt (Nat.le_trans M.cw hn) (by decide)
 have g1:=cm (vs:=Vr) v M.lr
 have g2:=cm (vs:=Vw) v M.lw
 cases hv:av kr Vr v with
 |some q=>
  rw [hv] at g1;have Cc:cK kr v=true:=g1
  refine⟨kw,Vw,.val (ah v),.val (.int e),.val (.int (d+e)),by simp only [wS,pq,ak,ai,aj,ax,bu,aA,aB,bU,bS,aF,aJ,aG,Nat.reduceAdd,Nat.reduceSub,reduceIte,J,J2,e1,uK,ya,Cc],M.keep (Nat.le_succ n) (Int.le_refl _) ?_⟩
  rintro a q' ha b c (hx|⟨rfl,rfl,rfl⟩)
  ·exact M.clo a q' ha b c hx
  ·rw [hu] at ha;cases ha;refine .inl ⟨q,hv,?_⟩;have:=hd _ q hv
   show q.1≤d+c
   omega
 |none=>
  rw [hv] at g1;have Cc:cK kr v=false:=g1
  cases hw:av kw Vw v with
  |none=>
   rw [hw] at g2;have E8:cK kw v=false:=g2
   refine⟨_,_,.val (ah v),.val (.int e),.val (.int (d+e)),?_,M.put hu hd he h0 hb ho hv (fun q h=>by rw [hw] at h;cases h)⟩;simp only [wS,pq,ak,ai,aj,ax,bu,aA,aB,bU,bS,aF,aJ,aG,Nat.reduceAdd,Nat.reduceSub,reduceIte,J,J2,e1,uK,ya,Cc,E8,fL,l,rO]
  |some q=>
   rw [hw] at g2;have E8:cK kw v=true:=g2
   have e2:=vS hw
   by_cases bW:d+e<q.1
   ·refine⟨_,_,.val (ah v),.val (.int e),.val (.int (d+e)),?_,M.put hu hd he h0 hb ho hv (fun q' h=>by rw [hw] at h;cases h;omega)⟩;simp only [wS,pq,ak,ai,aj,ax,bu,aA,aB,bU,bS,aF,aJ,aG,Nat.reduceAdd,Nat.reduceSub,reduceIte,J,J2,e1,e2,uK,ya,Cc,E8,bW,decide_true,fL,l,rO]
   ·refine⟨kw,Vw,.val (ah v),.val (.int e),.val (.int (d+e)),by simp only [wS,pq,ak,ai,aj,ax,bu,aA,aB,bU,bS,aF,aJ,aG,Nat.reduceAdd,Nat.reduceSub,reduceIte,J,J2,e1,e2,uK,ya,Cc,E8,bW,decide_false],M.keep (Nat.le_succ n) (Int.le_refl _) ?_⟩
    rintro a q' ha b c (hx|⟨rfl,rfl,rfl⟩)
    ·exact M.clo a q' ha b c hx
    ·rw [hu] at ha;cases ha;exact .inr ⟨q,hw,by show q.1≤d+c;omega⟩
theorem BD(F:bj){gn:Str}{ix:List Nat}{cp:List PV}{z:PV}{E:List Int→List Int→Int→Prop}{O:List Int→Prop}{s:List Int}{b:Int}(hE:∀u v e,E u v e→0<e∧e≤30∧O v){kr:Ks}{Vr:Vs}{u:List Int}{d:Int}{p0:PV}(hu:av kr Vr u=some (d,p0))(hd:∀k q,av kr Vr k=some q→q.1≤d)(GD:d+30≤b)(s4:Ci.Slot):
 ∀(T:List (List Int×Int)) (kw:Ks) (Vw:Vs) (X:List Int→List Int→Int→Prop) (n:Nat) (s6 s7 s8:Ci.Slot),(∀t∈T,E u t.1 t.2)→oq E O s kr Vr kw Vw X n b→n+T.length≤3000→∃Bt Bo DZ Ef BK,forL (fun x env=>((Tg.two 6 7).put x env).bind fun aH=>ax F wS aH) (T.map tK) (pq gn ix cp z kr Vr kw Vw s4 (.val (ah u)) s6 s7 s8)=.ok (.nx (pq gn ix cp z kr Vr Bt Bo s4 (.val (ah u)) DZ Ef BK))∧oq E O s kr Vr Bt Bo (fun a b c=>X a b c∨a=u∧(b,c)∈T) (n+T.length) b
 |[],kw,Vw,X,n,s6,s7,s8,_,M,_=>⟨kw,Vw,s6,s7,s8,rfl,M.keep (Nat.le_refl _) (Int.le_refl _) (fun a q ha b c hx=>M.clo a q ha b c (hx.resolve_right fun z=>by cases z.2))⟩
 |t::T,kw,Vw,X,n,s6,s7,s8,hT,M,hn=>by
  have ht:=hT t (List.mem_cons_self ..)
  rw [List.length_cons] at hn;obtain⟨kw1,Vw1,a6,a7,a8,e1,M1⟩:=Fd F (gn:=gn) (ix:=ix) (cp:=cp) (z:=z) M (by omega) hu hd ht (hE _ _ _ ht).1 (by have:=(hE _ _ _ ht).2.1;omega) (hE _ _ _ ht).2.2 s4 s6 s7 s8
  obtain⟨kw2,Vw2,b6,b7,b8,e2,M2⟩:=BD F hE hu hd GD s4 T kw1 Vw1 _ (n+1) a6 a7 a8 (fun x hx=>hT x (List.mem_cons_of_mem _ hx)) M1 (by omega)
  refine⟨kw2,Vw2,b6,b7,b8,?_,M2.keep (by rw [List.length_cons];omega) (Int.le_refl _) fun a q ha b c hx=>M2.clo a q ha b c ?_⟩
  ·rw [List.map_cons,forL,e1,Bj];exact e2
  ·rcases hx with hx|⟨h1,h2⟩
   ·exact .inl (.inl hx)
   ·rcases List.mem_cons.1 h2 with h2|h2
    ·exact .inl (.inr ⟨h1,by rw [←h2],by rw [←h2]⟩)
    ·exact .inr ⟨h1,h2⟩
end K98
namespace K98
open PySem L2 Ci KJ
def yo(U kr:Ks):Nat:=(U.filter fun x=>!cK kr x).length
theorem yU{U kr:Ks}{k:List Int}(hk:k∈U)(hn:cK kr k=false):yo U (bt kr k)<yo U kr:=by
 have hh:∀x,cK (bt kr k) x=(cK kr x||decide (x=k)):=by
  intro x;rw [Bool.eq_iff_iff,Bool.or_eq_true,eF,eF,decide_eq_true_eq];unfold bt;rw [hn];simp
 unfold yo;simp only [hh]
 induction U with
 |nil=>cases hk
 |cons y U ih=>
  have mono:(U.filter fun x=>!(cK kr x||decide (x=k))).length≤(U.filter fun x=>!cK kr x).length:=by
   rw [←List.countP_eq_length_filter,←List.countP_eq_length_filter];refine List.countP_mono_left fun x _ h=>?_
   simp only [Bool.not_or,Bool.and_eq_true] at h;exact h.1
  rw [List.filter_cons,List.filter_cons]
  by_cases e:y=k
  ·subst e;simp only [hn,decide_true,Bool.or_true,Bool.not_true,Bool.false_eq_true,if_false,Bool.not_false,if_true,List.length_cons];omega
  ·have:=ih ((List.mem_cons.1 hk).resolve_left fun z=>e z.symm)
   simp only [e,decide_false,Bool.or_false];cases cK kr y<;>simp only [Bool.not_true,Bool.not_false,Bool.false_eq_true,if_true,if_false,List.length_cons]<;>omega
def wC:E:=.cmp .gt (.blt .len (.cons (.tmp 3) .nil)) (.cst (.int 0))
noncomputable def wB:Ss:=(.cons (.minK 5 3)
 (.cons (.putPop 2 3 5)
 (.cons (.for_ (.two 6 7) (.seq (.callv 1 (.cons (.var 5) .nil))) wS)
 .nil)))
theorem A0(F:bj){gn:Str}{ix:List Nat}{cp:List PV}{z:PV}{as:List Int→List PV}(Bl:ix.head?=some 1)(EJ:∀u,en (ah u::cp) ix.tail=.ok (as u)){E:List Int→List Int→Int→Prop}{O:List Int→Prop}{s:List Int}{U:Ks}(hU:∀u,O u→u∈U)(EB:U.length≤36)(hE:∀u v e,E u v e→0<e∧e≤30∧O v)(dB:∀u,O u→∃T:List (List Int×Int),F gn (as u)=.ok (.lst (T.map tK))∧T.length≤60∧∀v e,(v,e)∈T↔E u v e)
 {kr:Ks} {Vr:Vs} {kw:Ks} {Vw:Vs} (M:oq E O s kr Vr kw Vw E (1+60*kr.length) (30*kr.length)) (hc:kr.length+yo U kr≤U.length) (fc:kw≠[]) (s4 s5 s6 s7 s8:Ci.Slot):
 ∃qf GX Bt Bo Kk DZ Ef BK,ax F wB (pq gn ix cp z kr Vr kw Vw s4 s5 s6 s7 s8)=.ok (.nx (pq gn ix cp z qf GX Bt Bo s4 Kk DZ Ef BK))∧oq E O s qf GX Bt Bo E (1+60*qf.length) (30*qf.length)∧qf.length+yo U qf≤U.length∧yo U qf<yo U kr:=by
 obtain⟨k,q,h1,h2,h3⟩:=uy M.lw M.nw fc
 obtain⟨M1,h4,h5⟩:=M.move h2 h3
 obtain⟨ho,_⟩:=M.ww k q h2
 have hk:cK kr k=false:=by
  rw [cm (vs:=Vr) k M.lr];cases h:av kr Vr k with
  |none=>rfl
  |some q'=>exact(M.dis k q' q h h2).elim
 have hl:(bt kr k).length=kr.length+1:=by unfold bt;rw [hk];simp
 have bW:=yU (hU k ho) hk
 obtain⟨T,e1,hT,hT2⟩:=dB k ho
 obtain⟨d,p0⟩:=q
 obtain⟨kw2,Vw2,b6,b7,b8,e2,M2⟩:=BD F (gn:=gn) (ix:=ix) (cp:=cp) (z:=z) (b:=30*kr.length+30) hE h4 h5 (by have:=(M.bd k (d,p0) (.inr h2)).2;show d+30≤_;omega) s4 T _ _ _ _ s6 s7 s8 (fun t ht=>(hT2 t.1 t.2).1 ht) (M1.keep (Nat.le_refl _) (by omega) M1.clo) (by omega)
 refine⟨_,_,kw2,Vw2,.val (ah k),b6,b7,b8,?_,M2.keep (by omega) (by omega) (fun a q ha b c hx=>M2.clo a q ha b c ?_),by omega,bW⟩
 ·have l:kr.length<fH∧2≠3:=⟨Nat.lt_of_le_of_lt (m:=36) (by omega) (by decide),by decide⟩
  have gm:av kw (Vw.map val) k=some (val (d,p0)):=by rw [kC,h2];rfl
  have gp:bq kr (Vr.map val) k (val (d,p0))=(bq kr Vr k (d,p0)).map val:=mw val kr Vr k (d,p0)
  have ha:=EJ k
  simp only [wS,pq,ak,ai,aj,ax,bu,aA,aB,bU,bS,aF,aJ,aG,Nat.reduceAdd,Nat.reduceSub,reduceIte,J,J2] at e2;simp only [wB,wS,pq,ak,ai,aj,ax,bu,aA,aB,bU,bS,aF,aJ,aG,Nat.reduceAdd,Nat.reduceSub,reduceIte,J,J2,lM,h1,fL,gm,l,and_self,jq,gp,Bl,ha,e1,e2,ne_eq,not_false_eq_true]
 ·by_cases e:a=k
  ·subst e;exact .inr ⟨rfl,(hT2 b c).2 hx⟩
  ·exact .inl ⟨hx,e⟩
theorem r9(F:bj){gn:Str}{ix:List Nat}{cp:List PV}{z:PV}{as:List Int→List PV}(Bl:ix.head?=some 1)(EJ:∀u,en (ah u::cp) ix.tail=.ok (as u)){E:List Int→List Int→Int→Prop}{O:List Int→Prop}{s:List Int}{U:Ks}(hU:∀u,O u→u∈U)(EB:U.length≤36)(hE:∀u v e,E u v e→0<e∧e≤30∧O v)(dB:∀u,O u→∃T:List (List Int×Int),F gn (as u)=.ok (.lst (T.map tK))∧T.length≤60∧∀v e,(v,e)∈T↔E u v e)(s4:Ci.Slot):
 ∀(n:Nat) (kr:Ks) (Vr:Vs) (kw:Ks) (Vw:Vs) (s5 s6 s7 s8:Ci.Slot),oq E O s kr Vr kw Vw E (1+60*kr.length) (30*kr.length)→kr.length+yo U kr≤U.length→yo U kr<n→∃qf GX Nw Kk DZ Ef BK,cG (aA F wC) (ax F wB) n (pq gn ix cp z kr Vr kw Vw s4 s5 s6 s7 s8)=.ok (.nx [.val z,.fn gn ix cp,.own (.dct qf (GX.map val)),Nw,s4,Kk,DZ,Ef,BK])∧qf.length≤36∧∃m,oq E O s qf GX [] [] E m 1080
 |0,_,_,_,_,_,_,_,_,_,_,h=>absurd h (Nat.not_lt_zero _)
 |n+1,kr,Vr,kw,Vw,s5,s6,s7,s8,M,hc,hn=>by
  have ec:aA F wC (pq gn ix cp z kr Vr kw Vw s4 s5 s6 s7 s8)=.ok (.bl (decide ((0:Int)<kw.length))):=by simp only [wC,pq,ak,ai,aj,ax,bu,aA,aB,bU,bS,aF,aJ,aG,Nat.reduceAdd,Nat.reduceSub,reduceIte,J,J2,IE]
  by_cases hk:kw=[]
  ·subst hk;have hv:Vw=[]:=List.eq_nil_of_length_eq_zero M.lw.symm
   subst hv;refine⟨kr,Vr,.own (.dct [] []),s5,s6,s7,s8,?_,by omega,_,M.keep (Nat.le_refl _) (by omega) M.clo⟩;have:decide ((0:Int)<(([]:Ks).length:Nat))=false:=rfl
   rw [this] at ec;simp only [cG,ec,Bj,GO,Bool.false_eq_true,if_false,pq]
   rfl
  ·obtain⟨kr1,Vr1,kw1,Vw1,t5,t6,t7,t8,e1,M1,hc1,bW⟩:=A0 F (gn:=gn) (z:=z) Bl EJ hU EB hE dB M hc hk s4 s5 s6 s7 s8
   obtain⟨kr2,Vr2,u3,u5,u6,u7,u8,e2,h2⟩:=r9 F (gn:=gn) (z:=z) Bl EJ hU EB hE dB s4 n kr1 Vr1 kw1 Vw1 t5 t6 t7 t8 M1 hc1 (by omega)
   refine⟨kr2,Vr2,u3,u5,u6,u7,u8,?_,h2⟩;have:decide ((0:Int)<(kw.length:Nat))=true:=by
    have:=List.length_pos_iff.2 hk
    simp;omega
   rw [this] at ec;simp only [cG,ec,Bj,GO,if_true,e1,e2]
structure vv(E:List Int→List Int→Int→Prop)(s:List Int)(kr:Ks)(Vr:Vs):Prop where
 len:kr.length=Vr.length
 le:kr.length≤36
 wlk:∀k q,av kr Vr k=some q→k.length=2∧Bz E s k q.1
 clo:∀u q,av kr Vr u=some q→∀v e,E u v e→∃q',av kr Vr v=some q'∧q'.1≤q.1+e
 st:∃q,av kr Vr s=some q∧q.1≤0
 pre:∀k q,av kr Vr k=some q→(q.2=.non∧k=s)∨∃y q',q.2=ah y∧av kr Vr y=some q'∧q'.1<q.1
 bd:∀k q,av kr Vr k=some q→0≤q.1∧q.1≤1080
 nr:kr.Nodup
noncomputable def A8(gn:Str)(ix:List Nat):Def:=⟨["starts","steps","reached","waiting","start","spot","other","cost","together"],2,(.cons (.dnew 2)
 (.cons (.dnew 3)
 (.cons (.for_ (.one 4) (.seq (.var 0))
  (.cons (.put 3 (.var 4) (.tup (.cons (.cst (.int 0)) (.cons (.cst .non) .nil))))
  .nil))
 (.cons (.whl (.cmp .gt (.blt .len (.cons (.tmp 3) .nil)) (.cst (.int 0)))
  (.cons (.minK 5 3)
  (.cons (.putPop 2 3 5)
  (.cons (.for_ (.two 6 7) (.seq (.callv 1 (.cons (.var 5) .nil)))
   (.cons (.set 8 (.bin .add (.sub (.sub (.tmp 2) (.var 5)) (.cst (.int 0))) (.var 7)))
   (.cons (.ite (.and (.cmp .nin (.var 6) (.tmp 2)) (.or (.cmp .nin (.var 6) (.tmp 3)) (.cmp .lt (.var 8) (.sub (.sub (.tmp 3) (.var 6)) (.cst (.int 0))))))
    (.cons (.put 3 (.var 6) (.tup (.cons (.var 8) (.cons (.var 5) .nil))))
    .nil)
    .nil)
   .nil)))
  .nil))))
 (.cons (.frz 2)
 (.cons (.ret (.var 2))
 .nil)))))),some (gn,ix)⟩
theorem mv(F:bj)(gn:Str){ix:List Nat}{cp:List PV}{as:List Int→List PV}(Bl:ix.head?=some 1)(EJ:∀u,en (ah u::cp) ix.tail=.ok (as u)){E:List Int→List Int→Int→Prop}{O:List Int→Prop}{s:List Int}{U:Ks}(hU:∀u,O u→u∈U)(EB:U.length≤36)(h2:∀u,O u→u.length=2)(hE:∀u v e,E u v e→0<e∧e≤30∧O v)(dB:∀u,O u→∃T:List (List Int×Int),F gn (as u)=.ok (.lst (T.map tK))∧T.length≤60∧∀v e,(v,e)∈T↔E u v e)(hs:O s):
 ∃kr Vr,ak F (A8 gn ix) (.lst [ah s]::cp)=.ok (.dct kr (Vr.map val))∧vv E s kr Vr:=by
 have g:∀x q,av [s] [((0:Int),PV.non)] x=some q→s=x∧q=(0,.non):=fun x q h=>by
  simp only [av] at h;split at h
  ·rename_i z;cases h;exact⟨z,rfl⟩
  ·cases h
 have M:oq E O s [] [] [s] [(0,.non)] E (1+60*([]:Ks).length) (30*(([]:Ks).length:Nat)):=⟨rfl,rfl,by simp,(fun k q q' h=>by simp [av] at h),(fun k q h=>by simp [av] at h),(fun k q h=>by obtain⟨rfl,rfl⟩:=g k q h;exact⟨hs,.here⟩),(fun k q k' q' h=>by simp [av] at h),(fun u q h=>by simp [av] at h),.inr ⟨(0,.non),by simp [av],Int.le_refl _⟩,by simp,(fun k q h=>h.elim (fun h=>by simp [av] at h) fun h=>by obtain⟨z,rfl⟩:=g k q h;exact .inl ⟨rfl,z.symm⟩),(fun k q h=>h.elim (fun h=>by simp [av] at h) fun h=>by obtain⟨_,rfl⟩:=g k q h;exact⟨Int.le_refl _,Int.le_refl _⟩),List.nodup_nil⟩
 have hl:yo U []≤U.length:=List.length_filter_le ..
 obtain⟨kr,Vr,u3,u5,u6,u7,u8,e,h3,m,M'⟩:=r9 F (gn:=gn) (z:=.lst [ah s]) Bl EJ hU EB hE dB (.val (ah s)) WN [] [] [s] [(0,.non)] .no .no .no .no M (by simpa using hl) (Nat.lt_of_le_of_lt (Nat.le_trans hl EB) (by decide))
 refine⟨kr,Vr,?_,M'.lr,h3,fun k q h=>⟨h2 k (M'.wr k q h).1,(M'.wr k q h).2⟩,fun u q h v c hx=>?_,?_,?_,?_,?_⟩
 ·have l:(0:Nat)<fH:=by decide
  have p1:bt [] s=[s]:=rfl
  have p2:∀p:PV,bq ([]:Ks) [] s p=[p]:=fun p=>rfl
  have a2:List.take 1 (PV.lst [ah s]::cp)=[.lst [ah s]]:=rfl
  have a3:List.drop 1 (PV.lst [ah s]::cp)=cp:=rfl
  simp only [wC,wB,wS,pq,ak,ai,aj,ax,bu,aA,aB,bU,bS,aF,aJ,aG,Nat.reduceAdd,Nat.reduceSub,reduceIte,J,J2] at e;simp only [A8,ak,ai,aj,ax,bu,aA,aB,bU,bS,aF,aJ,aG,Nat.reduceAdd,Nat.reduceSub,reduceIte,J,J2,a2,a3,forL,fL,l,p1,p2,e,ES];exact if_pos rfl
 ·rcases M'.clo u q h v c hx with h|⟨q',h,_⟩
  ·exact h
  ·simp [av] at h
 ·rcases M'.st with h|⟨q',h,_⟩
  ·exact h
  ·simp [av] at h
 ·exact fun k q h=>M'.pre k q (.inl h)
 ·exact fun k q h=>M'.bd k q (.inl h)
 ·exact M'.nr
end K98
namespace K98
open PySem L2 Ci KJ
theorem vL{α:Type}(xs:List α)(x:α):oj (xs++[x]) (-1)=some x:=by
 unfold oj Br;have h1:¬(0:Int)≤ -1:=by decide
 have h2: -((xs++[x]).length:Int)≤ -1:=by simp only [List.length_append,List.length_singleton];omega
 rw [if_neg h1,if_pos h2];have h3:(-1+((xs++[x]).length:Int)).toNat=xs.length:=by simp only [List.length_append,List.length_singleton];omega
 rw [h3];simp
theorem BH{q:Int×PV}:aQ (val q) (.int 1)=.ok q.2:=id rfl
def Et:E:=(.cmp .isn (.sub (.sub (.var 0) (.sub (.tmp 2) (.neg (.cst (.int 1))))) (.cst (.int 1))) (.cst .non))
def HB:Ss:=(.cons (.app 2 (.sub (.sub (.var 0) (.sub (.tmp 2) (.neg (.cst (.int 1))))) (.cst (.int 1)))) .nil)
theorem sO(xs:List PV)(x:PV):aQ (.lst (xs++[x])) (.int (-1))=.ok x:=by
 simp only [aQ,vL]
 rfl
theorem sY(F:bj){E:List Int→List Int→Int→Prop}{s:List Int}{kr:Ks}{Vr:Vs}(R:vv E s kr Vr)(z:PV):∀(n:Nat) (xs:List PV) (y:List Int) (q:Int×PV),av kr Vr y=some q→q.1<n→(xs.length:Int)+q.1≤2000→∃ys,cG (aA F Et) (ax F HB) n [.val (.dct kr (Vr.map val)),.val z,.own (.lst (xs++[ah y]))]=.ok (.nx [.val (.dct kr (Vr.map val)),.val z,.own (.lst (xs++ah y::ys))])∧∃us,ah y::ys=us++[ah s]
 |0,xs,y,q,h,hn,_=>by have:=(R.bd y q h).1;omega
 |n+1,xs,y,q,h,hn,hl=>by
  have e1:=sO xs (ah y)
  have e2:=vS h
  have b0:=(R.bd y q h).1
  have l:(xs++[ah y]).length<fH:=Nat.lt_of_le_of_lt (m:=3000) (by rw [List.length_append,List.length_singleton];omega) (by decide)
  rcases R.pre y q h with⟨p,rfl⟩|⟨y',q',p,h',bW⟩
  ·refine⟨[],?_,[],rfl⟩;have e5:eZ .non .non=.ok (.bl false):=rfl
   have ec:aA F Et [.val (.dct kr (Vr.map val)),.val z,.own (.lst (xs++[ah y]))]=.ok (.bl false):=by simp only [Et,ak,ai,aj,ax,bu,aA,aB,bU,bS,aF,aJ,aG,Nat.reduceAdd,Nat.reduceSub,reduceIte,J,J2,e1,e2,BH,p,e5]
   simp only [cG,ec,Bj,GO,Bool.false_eq_true,if_false]
  ·have e5:eZ (ah y') .non=.ok (.bl true):=rfl
   have ec:aA F Et [.val (.dct kr (Vr.map val)),.val z,.own (.lst (xs++[ah y]))]=.ok (.bl true):=by simp only [Et,ak,ai,aj,ax,bu,aA,aB,bU,bS,aF,aJ,aG,Nat.reduceAdd,Nat.reduceSub,reduceIte,J,J2,e1,e2,BH,p,e5]
   have eb:ax F HB [.val (.dct kr (Vr.map val)),.val z,.own (.lst (xs++[ah y]))]=.ok (.nx [.val (.dct kr (Vr.map val)),.val z,.own (.lst (xs++[ah y]++[ah y']))]):=by simp only [HB,ak,ai,aj,ax,bu,aA,aB,bU,bS,aF,aJ,aG,Nat.reduceAdd,Nat.reduceSub,reduceIte,J,J2,e1,e2,BH,p,l]
   obtain⟨ys,e,us,hu⟩:=sY F R z n (xs++[ah y]) y' q' h' (by omega) (by rw [List.length_append,List.length_singleton];omega)
   refine⟨ah y'::ys,?_,ah y::us,by rw [hu];rfl⟩;simp only [cG,ec,Bj,GO,if_true,eb,e];simp
theorem u9(F:bj){E:List Int→List Int→Int→Prop}{s:List Int}{kr:Ks}{Vr:Vs}(R:vv E s kr Vr){k:List Int}{q:Int×PV}(hq:av kr Vr k=some q):∃ys,ak F eC [.dct kr (Vr.map val),ah k]=.ok (.lst (ah k::ys))∧∃us,ah k::ys=us++[ah s]:=by
 have hb:=(R.bd k q hq).2
 obtain⟨ys,e,hu⟩:=sY F R (ah k) WN [] k q hq (Int.lt_of_le_of_lt hb (by decide)) (by simp;omega)
 refine⟨ys,?_,hu⟩;simp only [Et,HB,ak,ai,aj,ax,bu,aA,aB,bU,bS,aF,aJ,aG,Nat.reduceAdd,Nat.reduceSub,reduceIte,J,J2,List.nil_append] at e;simp only [eC,ak,ai,aj,ax,bu,aA,aB,bU,bS,aF,aJ,aG,Nat.reduceAdd,Nat.reduceSub,reduceIte,J,J2,e,ES]
end K98
namespace K98
open PySem L2 Ci KJ
theorem sS:∀(n:Nat) (a b:List Int),eqs (iU n) (a.map .int) (b.map .int)=decide (a=b)
 |_,[],[]=>rfl
 |_,[],_::_=>rfl
 |_,_::_,[]=>rfl
 |n,x::a,y::b=>by
  have:iU n (.int x) (.int y)=(x==y):=by cases n<;>rfl
  simp only [List.map_cons,eqs,sS n a b,this];rw [Bool.eq_iff_iff];simp
theorem nH(n:Nat)(a b:List Int):iU (n+1) (ah a) (ah b)=decide (a=b):=sS n a b
theorem AZ(n:Nat)(a:List Int):(a.map PV.int).all (Ci.plain n)=true:=by
 simp only [List.all_eq_true,List.mem_map]
 rintro x ⟨i,_,rfl⟩
 cases n<;>rfl
theorem iS(n:Nat)(a:List Int):Ci.plain (n+1) (ah a)=true:=AZ n a
theorem Au(n:Nat)(a:Ks):(a.map ah).all (Ci.plain (n+1))=true:=by
 simp only [List.all_eq_true,List.mem_map]
 rintro x ⟨i,_,rfl⟩
 exact iS n i
theorem Mo(a b:List Int):iO (ah a) (ah b)=.ok (.bl (decide (a=b))):=by
 show(if(Ci.plain 9 (ah a)&&Ci.plain 9 (ah b))=true then Res.ok (PV.bl (iU 9 (ah a) (ah b))) else .bad)=_
 rw [iS 8,iS 8];exact congrArg (fun z=>Res.ok (PV.bl z)) (nH 8 a b)
theorem KC(a b:List Int):iN (ah a) (ah b)=.ok (.bl (!decide (a=b))):=by
 show(if(Ci.plain 9 (ah a)&&Ci.plain 9 (ah b))=true then Res.ok (PV.bl (!iU 9 (ah a) (ah b))) else .bad)=_
 rw [iS 8,iS 8];exact congrArg (fun z=>Res.ok (PV.bl (!z))) (nH 8 a b)
theorem mem_keys(k:List Int)(L:Ks):tX (ah k) (L.map ah)=decide (k∈L):=by
 unfold tX;rw [List.any_map,Bool.eq_iff_iff,List.any_eq_true,decide_eq_true_eq]
 constructor
 ·rintro ⟨x,hx,e⟩
  have:decide (x=k)=true:=(nH 8 x k).symm.trans e
  exact of_decide_eq_true this▸hx
 ·intro h;exact⟨k,h,(nH 8 k k).trans (decide_eq_true rfl)⟩
theorem Oh(k:List Int)(L:Ks):qm (ah k) (.lst (L.map ah))=.ok (.bl (decide (k∈L))):=by
 show(if(Ci.plain 9 (ah k)&&(L.map ah).all (Ci.plain 9))=true then Res.ok (PV.bl (tX (ah k) (L.map ah))) else .bad)=_
 rw [iS 8,Au 8,mem_keys]
 rfl
theorem cX{α:Type}{f:PV→Res (Option PV)}{p q:α→PV}{g:α→Bool}:∀{xs:List α},(∀x∈xs,f (p x)=.ok (if g x then some (q x) else none))→bB f (xs.map p)=.ok ((xs.filter g).map q)
 |[],_=>rfl
 |x::xs,h=>by
  have h1:=h x (List.mem_cons_self ..)
  have h2:=cX (xs:=xs) fun y hy=>h y (List.mem_cons_of_mem _ hy)
  simp only [List.map_cons,bB,h1,Ld,Bj,h2];cases hg:g x<;>simp [List.filter_cons,hg,oc]
def cH(u:List Int):List Int:=u.map (·/3)
theorem HS{t:List Int×Int}:aQ (tK t) (.int 0)=.ok (ah t.1):=id rfl
def rQ(F:bj):Prop:=∀u:List Int,u.length=2→F "block_of" [ah u,.int 3]=.ok (ah (cH u))
theorem qa(F:bj)(u:List Int)(h:u.length=2):ak F cB [ah u,.int 3]=.ok (ah (cH u)):=by
 match u,h with
 |[r,c],_=>
  have k:ah [r,c]=sp r c:=rfl
  have d:(0:Int)<3∧(3:Int)<1073741824:=by decide
  simp only [k,cB,ak,ai,aj,ax,bu,aA,aB,bU,bS,aF,aJ,aG,Nat.reduceAdd,Nat.reduceSub,reduceIte,J,J2,d,and_self]
  rfl
theorem tW(F:bj)(hb:rQ F){A B:PV}{u:List Int}{T:List (List Int×Int)}(hu:u.length=2)(hs:F "steps_from" [A,B,ah u]=.ok (.lst (T.map tK)))(h2:∀t∈T,t.1.length=2)(hl:T.length≤60):
 ak F bx [A,B,.int 3,ah u]=.ok (.lst ((T.filter fun t=>decide (cH t.1=cH u)).map tK)):=by
 have l:(T.map tK).length<fH:=Nat.lt_of_le_of_lt (m:=60) (by rw [List.length_map];exact hl) (by decide)
 have e:=hb u hu
 simp only [bx,ak,ai,aj,ax,bu,aA,aB,bU,bS,aF,aJ,aG,Nat.reduceAdd,Nat.reduceSub,reduceIte,J,J2,e,hs,l];rw [cX (p:=tK) (q:=tK) (g:=fun t=>decide (cH t.1=cH u)) fun t ht=>?_]
 ·rfl
 ·have e1:=hb t.1 (h2 t ht)
  simp only [ak,ai,aj,ax,bu,aA,aB,bU,bS,aF,aJ,aG,Nat.reduceAdd,Nat.reduceSub,reduceIte,J,J2,HS,e1,Mo];cases decide (cH t.1=cH u)<;>rfl
theorem CN(F:bj)(hb:rQ F){A B:PV}{u:List Int}{T:List (List Int×Int)}(hu:u.length=2)(hs:F "steps_from" [A,B,ah u]=.ok (.lst (T.map tK)))(h2:∀t∈T,t.1.length=2)(hl:T.length≤60):
 ak F bH [A,B,.int 3,ah u]=.ok (.lst ((T.filter fun t=>!decide (cH t.1=cH u)).map tK)):=by
 have l:(T.map tK).length<fH:=Nat.lt_of_le_of_lt (m:=60) (by rw [List.length_map];exact hl) (by decide)
 have e:=hb u hu
 simp only [bH,ak,ai,aj,ax,bu,aA,aB,bU,bS,aF,aJ,aG,Nat.reduceAdd,Nat.reduceSub,reduceIte,J,J2,e,hs,l];rw [cX (p:=tK) (q:=tK) (g:=fun t=>!decide (cH t.1=cH u)) fun t ht=>?_]
 ·rfl
 ·have e1:=hb t.1 (h2 t ht)
  simp only [ak,ai,aj,ax,bu,aA,aB,bU,bS,aF,aJ,aG,Nat.reduceAdd,Nat.reduceSub,reduceIte,J,J2,HS,e1,KC];cases decide (cH t.1=cH u)<;>rfl
def vk(kr:Ks)(Vr:Vs)(v:List Int):Int:=((av kr Vr v).getD (0,.non)).1
noncomputable def tL(kr:Ks)(Vr:Vs)(u:List Int)(To:List (List Int×Int))(G:Ks):List (List Int×Int):=(((kr.filter fun v=>!decide (v=u)).map fun v=>(v,vk kr Vr v))++To).filter fun t=>decide (t.1∈G)
theorem yF(F:bj){A B:PV}{u:List Int}{kr:Ks}{Vr:Vs}{To:List (List Int×Int)}{G:Ks}(hl:kr.length=Vr.length)(hk:kr.length≤36)(ht:To.length≤9)
 (e1:F "spread@steps_within" [.lst [ah u],B,.int 3,A]=.ok (.dct kr (Vr.map val))) (e2:F "steps_out" [A,B,.int 3,ah u]=.ok (.lst (To.map tK))):
 ak F cg [A,B,.int 3,ah u,.lst (G.map ah)]=.ok (.lst ((tL kr Vr u To G).map tK)):=by
 have l:(kr.map ah).length<fH:=Nat.lt_of_le_of_lt (m:=36) (by rw [List.length_map];exact hk) (by decide)
 have c1:bB (fun x=>((Tg.one 0).put x [.no,.val (ah u),.val (.dct kr (Vr.map val))]).bind fun aH=>((gW aH[0]?).bind fun x=>(gW aH[1]?).bind fun y=>iN x y).bind fun t=>rb t fun t=>if t then(((gW aH[0]?).bind fun p=>((((gW aH[2]?).bind fun x=>(gW aH[0]?).bind fun y=>aQ x y).bind fun x=>aQ x (.int 0)).bind fun p=>.ok [p]).bind fun ps=>.ok (p::ps)).bind fun ps=>.ok (.tup ps)).bind fun y=>.ok (some y) else .ok none) (kr.map ah)=.ok (((kr.filter fun v=>!decide (v=u)).map fun v=>(v,vk kr Vr v)).map tK):=by
  rw [cX (p:=ah) (q:=fun v=>tK (v,vk kr Vr v)) (g:=fun v=>!decide (v=u)) fun v hv=>?_,List.map_map]
  ·rfl
  ·have:(av kr Vr v).isSome=true:=by rw [←cm v hl];exact eF.2 hv
   obtain⟨q,hq⟩:=Option.isSome_iff_exists.1 this
   have ec:vk kr Vr v=q.1:=by unfold vk;rw [hq];rfl
   simp only [ak,ai,aj,ax,bu,aA,aB,bU,bS,aF,aJ,aG,Nat.reduceAdd,Nat.reduceSub,reduceIte,J,J2,KC,vS hq,uK,ec];cases decide (v=u)<;>rfl
 have l2:(((kr.filter fun v=>!decide (v=u)).map fun v=>(v,vk kr Vr v)).map tK).length+(To.map tK).length≤fH:=by
  refine Nat.le_trans (m:=45) ?_ (by decide);have:=List.length_filter_le (fun v=>!decide (v=u)) kr
  simp only [List.length_map];omega
 have l3:((((kr.filter fun v=>!decide (v=u)).map fun v=>(v,vk kr Vr v)).map tK)++To.map tK).length<fH:=by
  rw [List.length_append];exact Nat.lt_of_le_of_lt (m:=45) (by
   have:=List.length_filter_le (fun v=>!decide (v=u)) kr
   simp only [List.length_map];omega) (by decide)
 have sq:vf (.var 5) (.dct kr (Vr.map val))=.ok (kr.map ah):=rfl
 have cv:iR [.val A,.val B,.val (.int 3),.val (ah u),.val (.lst (G.map ah)),.no,.no] [1,2,0]=.ok [B,.int 3,A]:=rfl
 simp only [ak,ai,aj,ax,bu,aA,aB,bU,bS,aF,aJ,aG,Nat.reduceAdd,Nat.reduceSub,reduceIte,J,J2] at c1;simp only [cg,ak,ai,aj,ax,bu,aA,aB,bU,bS,aF,aJ,aG,Nat.reduceAdd,Nat.reduceSub,reduceIte,J,J2,cv,e1,sq,l,c1,e2,l2,l3];rw [←List.map_append,cX (p:=tK) (q:=tK) (g:=fun t=>decide (t.1∈G)) fun t ht=>?_]
 ·rfl
 ·simp only [ak,ai,aj,ax,bu,aA,aB,bU,bS,aF,aJ,aG,Nat.reduceAdd,Nat.reduceSub,reduceIte,J,J2,HS,KN,Oh];cases decide (t.1∈G)<;>rfl
end K98
namespace K98
open PySem L2 Ci KJ
def iz(r c:Int):Prop:=0≤r∧r<6∧0≤c∧c<4
def O(u:List Int):Prop:=∃r c,u=[r,c]∧iz r c
def Ed(u v:List Int)(e:Int):Prop:=∃r c r' c',u=[r,c]∧v=[r',c']∧iz r c∧iz r' c'∧((r=r'∧(c'=c+1∨c=c'+1))∨(c=c'∧(r'=r+1∨r=r'+1)))∧e=2
def Ew(u v:List Int)(e:Int):Prop:=Ed u v e∧cH v=cH u
def mh:List Int→List Int→Int
 |[r,c],[r',c']=>max (r-r') (r'-r)+max (c-c') (c'-c)
 |_,_=>0
theorem Gn{r c r' c':Int}:cH [r,c]=cH [r',c']↔r/3=r'/3∧c/3=c'/3:=by simp [cH]
theorem BF{s u v:List Int}(hs:s.length=2)(hu:u.length=2)(hv:v.length=2):mh s v≤mh s u+mh u v:=by
 match s,u,v,hs,hu,hv with
 |[a,b],[c,d],[e,f],_,_,_=>simp only [mh];omega
theorem sF{E:List Int→List Int→Int→Prop}(hE:∀a b e,E a b e→2*mh a b≤e∧a.length=2∧b.length=2){s:List Int}(hs:s.length=2){v:List Int}{d:Int}(h:Bz E s v d):2*mh s v≤d∧v.length=2:=by
 induction h with
 |here=>
  match s,hs with
  |[a,b],_=>exact⟨by simp only [mh];omega,rfl⟩
 |go _ he ih=>
  obtain⟨h1,h2,h3⟩:=hE _ _ _ he
  have:=BF hs ih.2 h3
  exact⟨by omega,h3⟩
theorem qR{a b:List Int}{e:Int}(h:Ed a b e):2*mh a b≤e∧a.length=2∧b.length=2:=by
 obtain⟨r,c,r',c',rfl,rfl,_,_,h,rfl⟩:=h
 exact⟨by simp only [mh];omega,rfl,rfl⟩
theorem v5{s v:List Int}{d:Int}(hs:O s)(h:Bz Ew s v d):O v∧cH v=cH s:=by
 induction h with
 |here=>exact⟨hs,rfl⟩
 |go _ he ih=>
  obtain⟨⟨r,c,r',c',rfl,rfl,_,hi,_⟩,hb⟩:=he
  exact⟨⟨_,_,rfl,hi⟩,hb.trans ih.2⟩
theorem reach{s:List Int}{kr:Ks}{Vr:Vs}(R:vv Ew s kr Vr)(hs:O s):∀(n:Nat) (v:List Int),O v→cH v=cH s→mh s v=n→∃q,av kr Vr v=some q∧q.1≤2*(n:Int)
 |0,v,hv,_,hn=>by
  obtain⟨r,c,rfl,_⟩:=hs
  obtain⟨r',c',rfl,_⟩:=hv
  simp only [mh] at hn;have h1:r'=r:=by omega
  have h2:c'=c:=by omega
  subst h1 h2;exact R.st
 |n+1,v,hv,hb,hn=>by
  obtain⟨r,c,rfl,qS⟩:=id hs
  obtain⟨r',c',rfl,hv'⟩:=hv
  obtain⟨b1,b2⟩:=Gn.1 hb
  simp only [mh] at hn;simp only [iz] at qS hv';have step:∀x y:Int,iz x y→cH [x,y]=cH [r,c]→max (r-x) (x-r)+max (c-y) (y-c)=(n:Int)→((x=r'∧(c'=y+1∨y=c'+1))∨(y=c'∧(r'=x+1∨x=r'+1)))→∃q,av kr Vr [r',c']=some q∧q.1≤2*((n+1:Nat):Int):=fun x y hi gL hm he=>by
   obtain⟨q,h1,h2⟩:=reach R hs n [x,y] ⟨x,y,rfl,hi⟩ gL (by simp only [mh];exact hm)
   obtain⟨q',h3,h4⟩:=R.clo _ q h1 [r',c'] 2 ⟨⟨x,y,r',c',rfl,rfl,hi,hv',he,rfl⟩,hb.trans gL.symm⟩
   exact⟨q',h3,by omega⟩
  by_cases h1:r'<r
  ·exact step (r'+1) c' (by simp only [iz];omega) (Gn.2 ⟨by omega,b2⟩) (by omega) (.inr ⟨rfl,.inr rfl⟩)
  ·by_cases h2:r<r'
   ·exact step (r'-1) c' (by simp only [iz];omega) (Gn.2 ⟨by omega,b2⟩) (by omega) (.inr ⟨rfl,.inl (by omega)⟩)
   ·by_cases h3:c'<c
    ·exact step r' (c'+1) (by simp only [iz];omega) (Gn.2 ⟨b1,by omega⟩) (by omega) (.inl ⟨rfl,.inr rfl⟩)
    ·exact step r' (c'-1) (by simp only [iz];omega) (Gn.2 ⟨b1,by omega⟩) (by omega) (.inl ⟨rfl,.inl (by omega)⟩)
theorem fu{s:List Int}{kr:Ks}{Vr:Vs}(R:vv Ew s kr Vr)(hs:O s){v:List Int}:(∀q,av kr Vr v=some q→O v∧cH v=cH s∧q.1=2*mh s v)∧(O v→cH v=cH s→∃q,av kr Vr v=some q):=by
 have mp:∀{v:List Int},O v→∃n:Nat,mh s v=n:=fun{v} hv=>by
  obtain⟨r,c,rfl,_⟩:=id hs
  obtain⟨r',c',rfl,_⟩:=hv
  exact⟨(mh [r,c] [r',c']).toNat,by simp only [mh];omega⟩
 refine⟨fun q hq=>?_,fun hv hb=>?_⟩
 ·obtain⟨_,w⟩:=R.wlk v q hq
  obtain⟨h1,h2⟩:=v5 hs w
  have l:=(sF (E:=Ew) (fun a b e h=>qR h.1) (by obtain⟨r,c,rfl,_⟩:=hs;rfl) w).1
  obtain⟨n,hn⟩:=mp h1
  obtain⟨q',h3,h4⟩:=reach R hs n v h1 h2 hn
  rw [hq] at h3;cases h3;exact⟨h1,h2,by omega⟩
 ·obtain⟨n,hn⟩:=mp hv
  obtain⟨q',h3,_⟩:=reach R hs n v hv hb hn
  exact⟨q',h3⟩
structure AK(G:Ks)(u:List Int)(T:List (List Int×Int)):Prop where
 len:T.length≤60
 low:∀v c,(v,c)∈T→O v∧2*mh u v≤c∧0<c∧c≤30
 ins:∀v,v∈G→v≠u→O v→cH v=cH u→∃c,(v,c)∈T∧c≤2*mh u v
 out:∀v,v∈G→Ed u v 2→cH v≠cH u→(v,2)∈T
theorem E0{G:Ks}{u:List Int}(hu:O u){kr:Ks}{Vr:Vs}(R:vv Ew u kr Vr){To:List (List Int×Int)}(hl:To.length≤9)(hT:∀v e,(v,e)∈To↔Ed u v e∧cH v≠cH u):AK G u (tL kr Vr u To G) where
 len:=by
  have h1:=List.length_filter_le (fun t:List Int×Int=>decide (t.1∈G)) (((kr.filter fun v=>!decide (v=u)).map fun v=>(v,vk kr Vr v))++To)
  have h2:=List.length_filter_le (fun v=>!decide (v=u)) kr
  have h3:=R.le
  unfold tL;simp only [List.length_append,List.length_map] at h1;omega
 low:=fun v c h=>by
  unfold tL at h;simp only [List.mem_filter,List.mem_append,List.mem_map] at h;obtain⟨⟨w,⟨hw,hn⟩,e⟩|h,_⟩:=h
  ·cases e;have:(av kr Vr v).isSome=true:=by rw [←cm v R.len];exact eF.2 hw
   obtain⟨q,hq⟩:=Option.isSome_iff_exists.1 this
   obtain⟨ho,_,hc⟩:=(fu R hu).1 q hq
   have ec:vk kr Vr v=q.1:=by unfold vk;rw [hq];rfl
   rw [ec,hc];refine⟨ho,by omega,?_⟩;obtain⟨r,c,rfl,hi⟩:=hu
   obtain⟨r',c',rfl,hj⟩:=ho
   simp only [iz] at hi hj;have:¬(r'=r∧c'=c):=fun z=>by
    obtain⟨rfl,rfl⟩:=z
    simp at hn
   simp only [mh];omega
  ·obtain⟨h,_⟩:=(hT v c).1 h
   have l:=(qR h).1
   obtain⟨r,c,r',c',rfl,rfl,_,hi,_,rfl⟩:=h
   exact⟨⟨_,_,rfl,hi⟩,l,by decide,by decide⟩
 ins:=fun v hv hn ho hb=>by
  obtain⟨q,hq⟩:=(fu R hu).2 ho hb
  obtain⟨_,_,hc⟩:=(fu R hu).1 q hq
  have ec:vk kr Vr v=q.1:=by unfold vk;rw [hq];rfl
  refine⟨vk kr Vr v,?_,by rw [ec,hc];exact Int.le_refl _⟩;unfold tL;simp only [List.mem_filter,List.mem_append,List.mem_map];have hk:v∈kr:=eF.1 (by rw [cm (vs:=Vr) v R.len,hq];rfl)
  exact⟨.inl ⟨v,⟨hk,by simp [hn]⟩,rfl⟩,by simp [hv]⟩
 out:=fun v hv he hb=>by
  unfold tL;simp only [List.mem_filter,List.mem_append];exact⟨.inr ((hT v 2).2 ⟨he,hb⟩),by simp [hv]⟩
def Ac:Ks:=(List.range 6).flatMap fun(r:Nat)=>(List.range 4).map fun(c:Nat)=>[(r:Int),(c:Int)]
theorem KY{u:List Int}(h:O u):u∈Ac:=by
 obtain⟨r,c,rfl,a,b,d,e⟩:=h
 refine List.mem_flatMap.2 ⟨r.toNat,List.mem_range.2 (by omega),List.mem_map.2 ⟨c.toNat,List.mem_range.2 (by omega),?_⟩⟩;rw [Int.toNat_of_nonneg a,Int.toNat_of_nonneg d]
theorem sQ:Ac.length≤36:=by decide
theorem wV{a b:List Int}(h:ah a=ah b):a=b:=by
 have:=congrArg f9 h
 rw [fL,fL] at this;exact Option.some.inj this
theorem El{a b:List Int×Int}(h:tK a=tK b):a=b:=by
 obtain⟨a1,a2⟩:=a
 obtain⟨b1,b2⟩:=b
 simp only [tK,PV.tup.injEq,List.cons.injEq,PV.int.injEq] at h;rw [wV h.1,h.2.1]
def mT(F:bj)(A B:PV)(G:Ks):Prop:=∀u,O u→∃T:List (List Int×Int),F "hops_from" [A,B,.int 3,ah u,.lst (G.map ah)]=.ok (.lst (T.map tK))∧AK G u T
def Eh(F:bj)(A B:PV)(G:Ks)(u v:List Int)(e:Int):Prop:=O u∧∃T:List (List Int×Int),F "hops_from" [A,B,.int 3,ah u,.lst (G.map ah)]=.ok (.lst (T.map tK))∧AK G u T∧(v,e)∈T
theorem yE(F:bj){A B:PV}{G:Ks}(hh:mT F A B G){s:List Int}(hs:O s):∃kr Vr,ak F ba [.lst [ah s],B,.lst (G.map ah),.int 3,A]=.ok (.dct kr (Vr.map val))∧vv (Eh F A B G) s kr Vr:=
 mv F "hops_from" (ix:=[1,4,1,3,0,2]) (cp:=[B,.lst (G.map ah),.int 3,A]) (as:=fun u=>[A,B,.int 3,ah u,.lst (G.map ah)]) rfl (fun _=>rfl) (O:=O) (U:=Ac) (fun _=>KY) sQ (fun u h=>by obtain⟨r,c,rfl,_⟩:=h;rfl)
  (fun u v e h=>by obtain⟨_,T,_,H,hm⟩:=h;obtain⟨a,_,b,c⟩:=H.low v e hm;exact⟨b,c,a⟩)
  (fun u hu=>by
   obtain⟨T,e,H⟩:=hh u hu
   refine⟨T,e,H.len,fun v c=>⟨fun h=>⟨hu,T,e,H,h⟩,fun⟨_,T',e',_,h⟩=>?_⟩⟩
   rw [e] at e';simp only [Res.ok.injEq,PV.lst.injEq] at e';rw [(List.map_inj_right fun x y=>El).1 e'];exact h) hs
theorem uM{F:bj}{A B:PV}{G:Ks}(hh:mT F A B G){s g:List Int}(hs:O s)(hg:O g)(J8:[5,2]∈G)(K8:g∈G){kr:Ks}{Vr:Vs}(R:vv (Eh F A B G) s kr Vr)(hc:cH g=cH s∨g=[5,3]∧cH s=[1,0]):∃q,av kr Vr g=some q∧q.1=2*mh s g:=by
 have low:∀q,av kr Vr g=some q→2*mh s g≤q.1:=fun q hq=>(sF (E:=Eh F A B G) (fun a b e h=>by
  obtain⟨ha,T,_,H,hm⟩:=h
  obtain⟨hb,h1,_⟩:=H.low b e hm
  obtain⟨r,c,rfl,_⟩:=ha
  obtain⟨r',c',rfl,_⟩:=hb
  exact⟨h1,rfl,rfl⟩) (by obtain⟨r,c,rfl,_⟩:=hs;rfl) (R.wlk g q hq).2).1
 have fin:(∃q,av kr Vr g=some q∧q.1≤2*mh s g)→∃q,av kr Vr g=some q∧q.1=2*mh s g:=fun⟨q,h1,h2⟩=>⟨q,h1,by have:=low q h1;omega⟩
 apply fin
 obtain⟨q0,hq0,hz⟩:=R.st
 have inside:∀v,v∈G→O v→cH v=cH s→∃q,av kr Vr v=some q∧q.1≤2*mh s v:=fun v hv ho hb=>by
  by_cases e:v=s
  ·subst e;obtain⟨r,c,rfl,_⟩:=hs
   exact⟨q0,hq0,by simp only [mh];omega⟩
  ·obtain⟨T,eT,H⟩:=hh s hs
   obtain⟨c,h1,h2⟩:=H.ins v hv e ho hb
   obtain⟨q,h3,h4⟩:=R.clo s q0 hq0 v c ⟨hs,T,eT,H,h1⟩
   exact⟨q,h3,by omega⟩
 rcases hc with hb|⟨rfl,hb⟩
 ·exact inside g K8 hg hb
 ·have Kg:O [5,2]:=⟨5,2,rfl,by simp only [iz];omega⟩
  obtain⟨q,h1,h2⟩:=inside [5,2] J8 Kg (by rw [hb];rfl)
  obtain⟨T,eT,H⟩:=hh [5,2] Kg
  have hm:=H.out [5,3] K8 ⟨5,2,5,3,rfl,rfl,by simp only [iz];omega,by simp only [iz];omega,.inl ⟨rfl,.inl rfl⟩,rfl⟩ (by decide)
  obtain⟨q',h3,h4⟩:=R.clo _ q h1 [5,3] 2 ⟨Kg,T,eT,H,hm⟩
  refine⟨q',h3,?_⟩;obtain⟨r,c,rfl,hi⟩:=hs
  simp only [iz] at hi;simp [cH] at hb;simp only [mh] at h2⊢;omega
end K98
namespace K98
open PySem L2 Ci KJ
theorem j7{rows:List Str}{sl:Bool}{cl pr r c r' c' e:Int}:dq rows sl cl pr r c r' c'=some e↔¬far r c r' c'∧(r≠r'∧c≠c'→sl=true∧dn rows r c'=true∧dn rows r' c=true)∧dj rows r' c'-dj rows r c≤cl∧dj rows r c-dj rows r' c'≤cl∧e=(if r≠r'∧c≠c' then 3 else 2)+pr*(if dj rows r' c'-dj rows r c>0 then dj rows r' c'-dj rows r c else 0):=by
 unfold dq
 by_cases h1:far r c r' c'
 ·rw [if_pos (show(r=r'∧c=c')∨1<r-r'∨1<r'-r∨1<c-c'∨1<c'-c from h1)];exact⟨(fun z=>by cases z),fun z=>absurd h1 z.1⟩
 ·have mD:¬((r=r'∧c=c')∨1<r-r'∨1<r'-r∨1<c-c'∨1<c'-c):=h1
  rw [if_neg mD]
  by_cases h2:(r≠r'∧c≠c')∧¬(sl=true∧dn rows r c'=true∧dn rows r' c=true)
  ·rw [if_pos h2];exact⟨(fun z=>by cases z),fun z=>absurd (z.2.1 h2.1) h2.2⟩
  ·rw [if_neg h2];have sV:r≠r'∧c≠c'→sl=true∧dn rows r c'=true∧dn rows r' c=true:=fun a=>Classical.byContradiction fun b=>h2 ⟨a,b⟩
   by_cases h3:cl<dj rows r' c'-dj rows r c∨cl<dj rows r c-dj rows r' c'
   ·rw [if_pos h3];exact⟨(fun z=>by cases z),fun z=>by omega⟩
   ·rw [if_neg h3];refine⟨fun z=>⟨h1,sV,by omega,by omega,by cases z;rfl⟩,fun z=>by rw [z.2.2.2.2]⟩
def CT(h:Nat):Str:=⟨#[48+h,48+h,48+h,48+h]⟩
def flat(h:Nat):List Str:=List.replicate 6 (CT h)
theorem rT(h i j:Nat):cd (flat h) i j=if i<6∧j<4 then some (48+h) else none:=by
 unfold cd flat;rw [List.getElem?_replicate]
 by_cases hi:i<6
 ·rw [if_pos hi];show([48+h,48+h,48+h,48+h]:List Nat)[j]?=_
  match j with
  |0=>rw [if_pos ⟨hi,by decide⟩];rfl
  |1=>rw [if_pos ⟨hi,by decide⟩];rfl
  |2=>rw [if_pos ⟨hi,by decide⟩];rfl
  |3=>rw [if_pos ⟨hi,by decide⟩];rfl
  |j+4=>rw [if_neg (fun z=>by omega)];rfl
 ·rw [if_neg hi,if_neg (fun z=>hi z.1)]
  rfl
theorem sE{h:Nat}(hh:h<10):Fl (flat h) 4 where
 rok:=⟨by simp [flat],fun z hz=>by rw [(List.mem_replicate.1 hz).2];show 4≤6;decide⟩
 ne:=by simp [flat]
 w1:=by decide
 rect:=fun z hz=>by rw [(List.mem_replicate.1 hz).2];rfl
 dig:=fun z hz x hx=>by
  rw [(List.mem_replicate.1 hz).2] at hx;have:x=48+h:=by
   have:x∈[48+h,48+h,48+h,48+h]:=hx
   simpa using this
  exact .inr (by omega)
theorem dM{h:Nat}{r c:Int}:dn (flat h) r c=true↔iz r c:=by
 rw [sN];unfold Fs;rw [rT];unfold iz
 by_cases z:r.toNat<6∧c.toNat<4
 ·rw [if_pos z];have:((48+h) !=35)=true:=by rw [bne_iff_ne];omega
  simp only [this,and_true];exact⟨fun q=>⟨q.1,by omega,q.2,by omega⟩,fun q=>⟨q.1,q.2.2.1⟩⟩
 ·rw [if_neg z];simp only [Bool.false_eq_true,and_false,false_iff];omega
theorem gU{h:Nat}{r c:Int}(hi:iz r c):dj (flat h) r c=h:=by
 unfold iz at hi;unfold dj;rw [rT,if_pos ⟨by omega,by omega⟩];show((48+h:Nat):Int)-48=h
 omega
theorem Dk{h:Nat}{pr:Int}{u v:List Int}{e:Int}:E1 (flat h) false 0 pr u v e↔Ed u v e:=by
 constructor
 ·rintro ⟨r,c,r',c',rfl,rfl,h1,h2,h3⟩
  have i1:=dM.1 h1
  have i2:=dM.1 h2
  rw [j7,gU i1,gU i2] at h3;obtain⟨a,b,_,_,d⟩:=h3
  have ns:¬(r≠r'∧c≠c'):=fun z=>by have:=(b z).1;cases this
  rw [if_neg ns,if_neg (by omega),Int.mul_zero] at d;refine⟨r,c,r',c',rfl,rfl,i1,i2,?_,by omega⟩;unfold far at a;omega
 ·rintro ⟨r,c,r',c',rfl,rfl,i1,i2,h3,rfl⟩
  refine⟨r,c,r',c',rfl,rfl,dM.2 i1,dM.2 i2,?_⟩;rw [j7,gU i1,gU i2];refine⟨by unfold far;omega,fun z=>by omega,by omega,by omega,?_⟩
  rw [if_neg (by omega),if_neg (by omega),Int.mul_zero]
  rfl
def TL(P:List Int→Int→Prop)(r:Res PV)(n:Nat):Prop:=∃T:List (List Int×Int),r=.ok (.lst (T.map tK))∧T.length≤n∧∀v e,(v,e)∈T↔P v e
def rn(F:bj)(A B:PV):Prop:=∀u,O u→TL (Ed u) (F "steps_from" [A,B,ah u]) 9
theorem LB{u v:List Int}{e:Int}(h:Ed u v e):v.length=2:=(qR h).2.2
theorem o2{u:List Int}(h:O u):u.length=2:=by obtain⟨r,c,rfl,_⟩:=h;rfl
theorem zO(F:bj)(hb:rQ F){A B:PV}(hs:rn F A B){u:List Int}(hu:O u):TL (Ew u) (ak F bx [A,B,.int 3,ah u]) 60:=by
 obtain⟨T,e,hl,hm⟩:=hs u hu
 refine⟨_,tW F hb (o2 hu) e (fun t ht=>LB ((hm t.1 t.2).1 ht)) (by omega),?_,fun v e=>?_⟩
 ·exact Nat.le_trans (List.length_filter_le ..) (by omega)
 ·simp only [List.mem_filter,decide_eq_true_eq,hm];exact Iff.rfl
theorem outF(F:bj)(hb:rQ F){A B:PV}(hs:rn F A B){u:List Int}(hu:O u):TL (fun v e=>Ed u v e∧cH v≠cH u) (ak F bH [A,B,.int 3,ah u]) 9:=by
 obtain⟨T,e,hl,hm⟩:=hs u hu
 refine⟨_,CN F hb (o2 hu) e (fun t ht=>LB ((hm t.1 t.2).1 ht)) (by omega),?_,fun v e=>?_⟩
 ·exact Nat.le_trans (List.length_filter_le ..) hl
 ·simp only [List.mem_filter,Bool.not_eq_true',decide_eq_false_iff_not,hm,ne_eq]
theorem y8(F:bj){A B:PV}(hh:∀u,O u→TL (Ew u) (F "steps_within" [A,B,.int 3,ah u]) 60){s:List Int}(hs:O s):∃kr Vr,ak F aP [.lst [ah s],B,.int 3,A]=.ok (.dct kr (Vr.map val))∧vv Ew s kr Vr:=
 mv F "steps_within" (ix:=[1,3,1,2,0]) (cp:=[B,.int 3,A]) (as:=fun u=>[A,B,.int 3,ah u]) rfl (fun _=>rfl) (O:=O) (U:=Ac) (fun _=>KY) sQ (fun u h=>o2 h)
  (fun u v e h=>by obtain⟨⟨r,c,r',c',_,rfl,_,hi,_,rfl⟩,_⟩:=h;exact⟨by decide,by decide,_,_,rfl,hi⟩) hh hs
theorem Gr(F:bj){A B:PV}(hw:∀s,O s→∃kr Vr,F "spread@steps_within" [.lst [ah s],B,.int 3,A]=.ok (.dct kr (Vr.map val))∧vv Ew s kr Vr)(ho:∀u,O u→TL (fun v e=>Ed u v e∧cH v≠cH u) (F "steps_out" [A,B,.int 3,ah u]) 9)(G:Ks){u:List Int}(hu:O u):
 ∃T:List (List Int×Int),ak F cg [A,B,.int 3,ah u,.lst (G.map ah)]=.ok (.lst (T.map tK))∧AK G u T:=by
 obtain⟨kr,Vr,e1,R⟩:=hw u hu
 obtain⟨To,e2,hl,hm⟩:=ho u hu
 exact⟨_,yF F R.len R.le hl e1 e2,E0 hu R hl hm⟩
theorem DG(F:bj){A B:PV}(hn:F "need_size" [.int 3]=.ok .non)(hs:F "open_spots" [A]=.ok (.lst (Ac.map ah)))(ho:∀u,O u→TL (fun v e=>Ed u v e∧cH v≠cH u) (F "steps_out" [A,B,.int 3,ah u]) 9):∃G:Ks,ak F fR [A,B,.int 3]=.ok (.lst (G.map ah))∧[5,2]∈G∧G.length≤24:=by
 have l:(Ac.map ah).length<fH:=by decide
 have uO:∀u∈Ac,O u:=by
  intro u hu;obtain⟨r,hr,hu⟩:=List.mem_flatMap.1 hu
  obtain⟨c,hc,rfl⟩:=List.mem_map.1 hu
  have:=List.mem_range.1 hr
  have:=List.mem_range.1 hc
  exact⟨_,_,rfl,by simp only [iz];omega⟩
 let g:List Int→Bool:=fun u=>match F "steps_out" [A,B,.int 3,ah u] with|.ok (.lst l)=>decide ((0:Int)<(l.length:Nat))|_=>false
 have hg:∀u (T:List (List Int×Int)),F "steps_out" [A,B,.int 3,ah u]=.ok (.lst (T.map tK))→g u=decide ((0:Int)<((T.map tK).length:Nat)):=fun u T e=>by
  show(match F "steps_out" [A,B,.int 3,ah u] with|.ok (.lst l)=>decide ((0:Int)<(l.length:Nat))|_=>false)=_
  rw [e]
 refine⟨Ac.filter g,?_,?_,Nat.le_trans (List.length_filter_le ..) (by decide)⟩
 ·simp only [fR,ak,ai,aj,ax,bu,aA,aB,bU,bS,aF,aJ,aG,Nat.reduceAdd,Nat.reduceSub,reduceIte,J,J2,hn,hs,l];rw [cX (p:=ah) (q:=ah) (g:=g) fun u hu=>?_]
  ·rfl
  ·obtain⟨T,e,_⟩:=ho u (uO u hu)
   simp only [ak,ai,aj,ax,bu,aA,aB,bU,bS,aF,aJ,aG,Nat.reduceAdd,Nat.reduceSub,reduceIte,J,J2,e,hg u T e];cases decide ((0:Int)<((T.map tK).length:Nat))<;>rfl
 ·refine List.mem_filter.2 ⟨by decide,?_⟩;obtain⟨T,e,_,hm⟩:=ho [5,2] ⟨5,2,rfl,by simp only [iz];omega⟩
  rw [hg _ T e,decide_eq_true_eq];have:([5,3],(2:Int))∈T:=(hm _ _).2 ⟨⟨5,2,5,3,rfl,rfl,by simp only [iz];omega,by simp only [iz];omega,.inl ⟨rfl,.inl rfl⟩,rfl⟩,by decide⟩
  have:=List.length_pos_of_mem this
  rw [List.length_map];omega
theorem L7(F:bj){A B:PV}(hn:F "need_size" [.int 3]=.ok .non)(hp:∀u,O u→F "need_open" [A,ah u]=.ok .non)(hg:∃G:Ks,F "gates" [A,B,.int 3]=.ok (.lst (G.map ah))∧[5,2]∈G∧G.length≤24)
 (F':bj) (hh:∀G,mT F' A B G) (hs:∀G s,O s→∃kr Vr,F "spread@hops_from" [.lst [ah s],B,.lst (G.map ah),.int 3,A]=.ok (.dct kr (Vr.map val))∧vv (Eh F' A B G) s kr Vr)
 (ht:∀E s kr Vr,vv E s kr Vr→∀k q,av kr Vr k=some q→∃ys,F "traced" [.dct kr (Vr.map val),ah k]=.ok (.lst (ah k::ys))∧∃us,ah k::ys=us++[ah s]) {s g:List Int} (os:O s) (og:O g) (hc:cH g=cH s∨g=[5,3]∧cH s=[1,0]):
 ∃ys,ak F cY [A,B,.int 3,ah s,ah g]=.ok (.tup [.int (2*mh s g),.lst ys])∧(∃a,ys=ah s::a)∧∃b,ys=b++[ah g]:=by
 obtain⟨G,e1,J8,hl⟩:=hg
 obtain⟨kr,Vr,e2,R⟩:=hs (G++[g]) s os
 obtain⟨q,hq,hc⟩:=uM (hh (G++[g])) os og (List.mem_append_left _ J8) (List.mem_append_right _ (List.mem_singleton.2 rfl)) R hc
 obtain⟨ys,e3,us,hu⟩:=ht _ _ _ _ R g q hq
 have l:(G.map ah).length+1≤fH:=Nat.le_trans (m:=25) (by rw [List.length_map];omega) (by decide)
 have Hu:F "spread@hops_from" [.lst [ah s],B,.lst (G.map ah++[ah g]),.int 3,A]=.ok (.dct kr (Vr.map val)):=by
  rw [←e2,List.map_append]
  rfl
 have cv:iR [.val A,.val B,.val (.int 3),.val (ah s),.val (ah g),.val (.lst (G.map ah++[ah g])),.no] [1,5,2,0]=.ok [B,.lst (G.map ah++[ah g]),.int 3,A]:=rfl
 have hk:cK kr g=true:=by rw [cm (vs:=Vr) g R.len,hq];rfl
 have n1:=hp s os
 have n2:=hp g og
 refine⟨(ah g::ys).reverse,?_,⟨us.reverse,by rw [hu];simp⟩,ys.reverse,by simp⟩;simp only [cY,ak,ai,aj,ax,bu,aA,aB,bU,bS,aF,aJ,aG,Nat.reduceAdd,Nat.reduceSub,reduceIte,J,J2,hn,n1,n2,e1,l,cv,Hu,ya,hk,vS hq,uK,hc,e3]
end K98
namespace K98
open PySem L2 Ci KJ
def IC(b:Bool):Res PV→Bool
 |.ok (.bl x)=>x==b
 |_=>false
theorem Cb{b:Bool}{r:Res PV}(h:IC b r=true):r=.ok (.bl b):=by
 unfold IC at h;split at h
 ·rw [beq_iff_eq.1 h]
 ·cases h
def CB(b:Bool)(r:Res PV)(f:PV→Res PV):Bool:=match r with
 |.ok p=>IC b (f p)
 |_=>false
theorem gF{b:Bool}{r:Res PV}{f:PV→Res PV}(h:CB b r f=true):∃p,r=.ok p∧f p=.ok (.bl b):=by
 unfold CB at h;split at h
 ·exact⟨_,rfl,Cb h⟩
 ·cases h
def Ju(a:Nat):PV:=.tup [.str (⟨#[48+(a+1)]⟩++⟨#[48+(a+2)]⟩),.str (⟨#[48+a]⟩++⟨#[48+(a+3)]⟩)]
def Fi:PV:=.lst [sp 0 0,sp 0 1,sp 1 1]
def GP:PV:=.lst [sp 0 0,sp 1 0,sp 1 1]
def Lq:PV:=.tup [.str "00000",.str "09990",.str "90009"]
def held:PV:=.lst [sp 0 0,sp 0 1,sp 0 2,sp 0 3,sp 0 4,sp 1 2,sp 2 2]
def pap(n:Int):PV:=.lst [.tup [sp 0 0,.int 0],.tup [sp 0 1,.int n]]
noncomputable def qA(a b c:Nat):Bool:=CB false (den kf "least_way" [Ju a,wk false (3+(c:Int)) (1+(b:Int)),sp 0 0,sp 1 1]) (fun p=>iN p (.tup [.int (4+2*(1+(b:Int))),Fi]))
noncomputable def MK(a b c:Nat):Bool:=CB false (den kf "cost_of" [Ju a,wk false (3+(c:Int)) (1+(b:Int)),GP]) (fun p=>iN p (.int (4+3*(1+(b:Int)))))
noncomputable def qC(b:Nat)(n:Int):Bool:=CB false (den kf "is_paper" [.tup [.str "00"],wk false 0 (1+(b:Int)),sp 0 0,pap n]) (fun p=>eZ p (.bl false))
noncomputable def N2(b d:Nat):Bool:=CB false (den kf "is_paper" [.tup [.str "00"],wk false 0 (1+(b:Int)),sp 0 0,pap (d:Int)]) (fun p=>eZ p (.bl true))
noncomputable def qD(b c:Nat):Bool:=CB true (den kf "narrow_spots" [Lq,wk false (c:Int) (1+(b:Int))]) (fun p=>iO p held)
theorem all2{m n:Nat}{f:Nat→Nat→Bool}(h:((List.range m).all fun a=>(List.range n).all fun b=>f a b)=true){a b:Nat}(ha:a<m)(hb:b<n):f a b=true:=
 List.all_eq_true.1 (List.all_eq_true.1 h a (List.mem_range.2 ha)) b (List.mem_range.2 hb)
theorem Jy{l m n:Nat}{f:Nat→Nat→Nat→Bool}(h:((List.range l).all fun a=>(List.range m).all fun b=>(List.range n).all fun c=>f a b c)=true){a b c:Nat}(ha:a<l)(hb:b<m)(hc:c<n):f a b c=true:=
 all2 (List.all_eq_true.1 h a (List.mem_range.2 ha)) hb hc
theorem NJ:((List.range 6).all fun a=>(List.range 3).all fun b=>(List.range 7).all fun c=>MK a b c)=true:=by decide+kernel
theorem fC:((List.range 3).all fun b=>qC b (-1)&&qC b (-2)&&qC b (0-(1+(b:Int))))=true:=by decide+kernel
theorem Mt:((List.range 3).all fun b=>(List.range 3).all fun d=>N2 b d)=true:=by decide+kernel
theorem Di{h:Nat}(hh:h<10):ak (den H8) cI [fl (flat h)]=.ok (.lst (Ac.map ah)):=by
 match h,hh with
 |0,_=>kernel_rfl
 |1,_=>kernel_rfl
 |2,_=>kernel_rfl
 |3,_=>kernel_rfl
 |4,_=>kernel_rfl
 |5,_=>kernel_rfl
 |6,_=>kernel_rfl
 |7,_=>kernel_rfl
 |8,_=>kernel_rfl
 |9,_=>kernel_rfl
end K98
namespace K98
open PySem L2 Ci KJ
theorem Jp:((List.range 3).all fun b=>(List.range 7).all fun c=>qA 0 b c)=true:=by decide+kernel
theorem IA:((List.range 3).all fun b=>(List.range 7).all fun c=>qA 1 b c)=true:=by decide+kernel
theorem Ih:((List.range 3).all fun b=>(List.range 7).all fun c=>qA 2 b c)=true:=by decide+kernel
theorem IB:((List.range 3).all fun b=>(List.range 7).all fun c=>qA 3 b c)=true:=by decide+kernel
theorem Jb:((List.range 3).all fun b=>(List.range 7).all fun c=>qA 4 b c)=true:=by decide+kernel
theorem IQ:((List.range 3).all fun b=>(List.range 7).all fun c=>qA 5 b c)=true:=by decide+kernel
theorem fA{a b c:Nat}(ha:a<6)(hb:b<3)(hc:c<7):qA a b c=true:=by
 match a,ha with
 |0,_=>exact all2 Jp hb hc
 |1,_=>exact all2 IA hb hc
 |2,_=>exact all2 Ih hb hc
 |3,_=>exact all2 IB hb hc
 |4,_=>exact all2 Jb hb hc
 |5,_=>exact all2 IQ hb hc
end K98
namespace K98
open PySem L2 Ci KJ
theorem N4:((List.range 3).all fun b=>qD b 0)=true:=by decide+kernel
theorem Mx:((List.range 3).all fun b=>qD b 1)=true:=by decide+kernel
theorem MW:((List.range 3).all fun b=>qD b 2)=true:=by decide+kernel
theorem Nt:((List.range 3).all fun b=>qD b 3)=true:=by decide+kernel
theorem N7:((List.range 3).all fun b=>qD b 4)=true:=by decide+kernel
theorem NL:((List.range 3).all fun b=>qD b 5)=true:=by decide+kernel
theorem Nb:((List.range 3).all fun b=>qD b 6)=true:=by decide+kernel
theorem My:((List.range 3).all fun b=>qD b 7)=true:=by decide+kernel
theorem MY:((List.range 3).all fun b=>qD b 8)=true:=by decide+kernel
theorem fD{b c:Nat}(hb:b<3)(hc:c<9):qD b c=true:=by
 match c,hc with
 |0,_=>exact List.all_eq_true.1 N4 b (List.mem_range.2 hb)
 |1,_=>exact List.all_eq_true.1 Mx b (List.mem_range.2 hb)
 |2,_=>exact List.all_eq_true.1 MW b (List.mem_range.2 hb)
 |3,_=>exact List.all_eq_true.1 Nt b (List.mem_range.2 hb)
 |4,_=>exact List.all_eq_true.1 N7 b (List.mem_range.2 hb)
 |5,_=>exact List.all_eq_true.1 NL b (List.mem_range.2 hb)
 |6,_=>exact List.all_eq_true.1 Nb b (List.mem_range.2 hb)
 |7,_=>exact List.all_eq_true.1 My b (List.mem_range.2 hb)
 |8,_=>exact List.all_eq_true.1 MY b (List.mem_range.2 hb)
end K98
namespace K98
open PySem L2 Ci KJ
theorem rR(F:bj)(h:F "is_whole" [.int 3]=.ok (.bl true)):ak F bZ [.int 3]=.ok .non:=by
 have e1:(decide ((1:Int)≤3))=true:=rfl
 have e2:(decide ((3:Int)≤12))=true:=rfl
 simp only [bZ,ak,ai,aj,ax,bu,aA,aB,bU,bS,aF,aJ,aG,Nat.reduceAdd,Nat.reduceSub,reduceIte,J,J2,h,e1,e2]
theorem Mw{h:Nat}(hh:h<10){pr:Int}(V:Wk 0 pr){s g:List Int}(os:O s)(og:O g)(hc:cH g=cH s∨g=[5,3]∧cH s=[1,0]):
 ∃ys,den kf "by_gates" [fl (flat h),wk false 0 pr,.int 3,ah s,ah g]=.ok (.tup [.int (2*mh s g),.lst ys])∧(∃a,ys=ah s::a)∧∃b,ys=b++[ah g]:=by
 have wY:∀F:bj,F "is_open"=ak (den T5) cu→qy F:=fun F hF rows R r c=>by
  rw [hF];exact zi _ (fun r c=>by rw [GK];exact qE _ (fun i=>by rw [FG];exact eJ _ i) r c) (fun rows R r c=>by rw [Fe];exact Fz _ rows R r c) rows R r c
 have xV:∀F:bj,F "need_open"=ak (den T6) bJ→vR F:=fun F hF rows R r c h=>by
  rw [hF];exact nk _ (wY _ Fo) rows R r c h
 have step:wg (den zm):=fun rows w L sl cl pr V r c r' c' h h'=>by
  rw [zq];exact zN _ (fun r c r' c'=>by rw [Dy];exact tV _ r c r' c') (fun rows R r c r' c'=>by rw [zD];exact qW _ (wY _ Gv) R r c r' c') (fun rows w L r c h=>by rw [Df];exact uU _ (xV _ GV) L h) L V h h'
 have N3:Bh (den zm):=fun rows R r c a b d e=>by
  rw [yO];exact C8 _ (wY _ CF) R a b d e
 have KQ:∀F:bj,F "steps_from"=ak (den zm) bF→rn F (fl (flat h)) (wk false 0 pr):=fun F hF u hu=>by
  obtain⟨r,c,rfl,hi⟩:=hu
  rw [hF];exact⟨_,w4 _ (xV _ D2) N3 step _ 4 (sE hh) false 0 pr V r c (dM.2 hi),qu ..,fun v e=>(qO (dM.2 hi) v e).trans Dk⟩
 have within:∀u,O u→TL (Ew u) (den HF "steps_within" [fl (flat h),wk false 0 pr,.int 3,ah u]) 60:=fun u hu=>by
  rw [yK];exact zO _ (fun u hu=>by rw [zr];exact qa _ u hu) (KQ _ zG) hu
 have out:∀F:bj,F "steps_out"=ak (den EC) bH→∀u,O u→TL (fun v e=>Ed u v e∧cH v≠cH u) (F "steps_out" [fl (flat h),wk false 0 pr,.int 3,ah u]) 9:=fun F hF u hu=>by
  rw [hF];exact outF _ (fun u hu=>by rw [Ax];exact qa _ u hu) (KQ _ A2) hu
 have Gh:∀G,mT (den E7) (fl (flat h)) (wk false 0 pr) G:=fun G u hu=>by
  rw [AA];exact Gr _ (fun s hs=>by rw [zI];exact y8 _ within hs) (out _ yH) G hu
 rw [yQ];refine L7 (den Ba) (by rw [Ae];exact rR _ (by rw [xN];exact eJ _ _)) (fun u hu=>by
  obtain⟨r,c,rfl,hi⟩:=hu
  exact xV _ Dz _ (sE hh).rok r c (dM.2 hi)) ?_ (den E7) Gh (fun G s hs=>by rw [zR];exact yE _ (Gh G) hs) (fun E s kr Vr R k q hq=>by rw [yZ];exact u9 _ R hq) os og hc
 rw [AS];exact DG _ (by rw [za];exact rR _ (by rw [xN];exact eJ _ _)) (by rw [yw];exact Di hh) (out _ zM)
noncomputable def lC:Ss:=(.cons (.par 11 12 (.cons (.tup (.cons (.cst (.str "00")) .nil)) (.cons (.tup (.cons (.cst (.bl false)) (.cons (.cst (.int 0)) (.cons (.var 2) .nil)))) .nil)))
 (.cons (.for_ (.one 13) (.seq (.tup (.cons (.neg (.cst (.int 1))) (.cons (.neg (.cst (.int 2))) (.cons (.bin .sub (.cst (.int 0)) (.var 2)) .nil))))) (.cons (.ite (.cmp .isn (.call "is_paper" (.cons (.var 11) (.cons (.var 12) (.cons (.tup (.cons (.cst (.int 0)) (.cons (.cst (.int 0)) .nil))) (.cons (.lst (.cons (.tup (.cons (.tup (.cons (.cst (.int 0)) (.cons (.cst (.int 0)) .nil))) (.cons (.cst (.int 0)) .nil))) (.cons (.tup (.cons (.tup (.cons (.cst (.int 0)) (.cons (.cst (.int 1)) .nil))) (.cons (.var 13) .nil))) .nil))) .nil))))) (.cst (.bl false))) (.cons (.ret (.cst (.bl false))) .nil) .nil) .nil))
 (.cons (.ite (.cmp .isn (.call "is_paper" (.cons (.var 11) (.cons (.var 12) (.cons (.tup (.cons (.cst (.int 0)) (.cons (.cst (.int 0)) .nil))) (.cons (.lst (.cons (.tup (.cons (.tup (.cons (.cst (.int 0)) (.cons (.cst (.int 0)) .nil))) (.cons (.cst (.int 0)) .nil))) (.cons (.tup (.cons (.tup (.cons (.cst (.int 0)) (.cons (.cst (.int 1)) .nil))) (.cons (.call "_law_pick" (.cons (.var 0) (.cons (.cst (.int 6)) (.cons (.cst (.int 3)) .nil)))) .nil))) .nil))) .nil))))) (.cst (.bl true))) (.cons (.ret (.cst (.bl false))) .nil) .nil)
 (.cons (.set 14 (.tup (.cons (.cst (.str "00000")) (.cons (.cst (.str "09990")) (.cons (.cst (.str "90009")) .nil)))))
 (.cons (.set 15 (.lst (.cons (.tup (.cons (.cst (.int 0)) (.cons (.cst (.int 0)) .nil))) (.cons (.tup (.cons (.cst (.int 0)) (.cons (.cst (.int 1)) .nil))) (.cons (.tup (.cons (.cst (.int 0)) (.cons (.cst (.int 2)) .nil))) (.cons (.tup (.cons (.cst (.int 0)) (.cons (.cst (.int 3)) .nil))) (.cons (.tup (.cons (.cst (.int 0)) (.cons (.cst (.int 4)) .nil))) (.cons (.tup (.cons (.cst (.int 1)) (.cons (.cst (.int 2)) .nil))) (.cons (.tup (.cons (.cst (.int 2)) (.cons (.cst (.int 2)) .nil))) .nil)))))))))
 (.cons (.ret (.cmp .eq (.call "narrow_spots" (.cons (.var 14) (.cons (.tup (.cons (.cst (.bl false)) (.cons (.call "_law_pick" (.cons (.var 0) (.cons (.cst (.int 7)) (.cons (.cst (.int 9)) .nil)))) (.cons (.var 2) .nil)))) .nil))) (.var 15)))
 .nil))))))
noncomputable def Kr:Ss:=(.cons (.set 9 (.bin .add (.bin .mul (.cst (.int 2)) (.blt .abs (.cons (.bin .sub (.sub (.var 8) (.cst (.int 0))) (.sub (.var 7) (.cst (.int 0)))) .nil))) (.bin .mul (.cst (.int 2)) (.blt .abs (.cons (.bin .sub (.sub (.var 8) (.cst (.int 1))) (.sub (.var 7) (.cst (.int 1)))) .nil))))) (.cons (.set 10 (.call "by_gates" (.cons (.var 5) (.cons (.tup (.cons (.cst (.bl false)) (.cons (.cst (.int 0)) (.cons (.var 2) .nil)))) (.cons (.var 6) (.cons (.var 7) (.cons (.var 8) .nil))))))) (.cons (.ite (.or (.cmp .is (.var 10) (.cst .non)) (.or (.cmp .ne (.sub (.var 10) (.cst (.int 0))) (.var 9)) (.or (.cmp .ne (.sub (.sub (.var 10) (.cst (.int 1))) (.cst (.int 0))) (.var 7)) (.cmp .ne (.sub (.sub (.var 10) (.cst (.int 1))) (.neg (.cst (.int 1)))) (.var 8))))) (.cons (.ret (.cst (.bl false))) .nil) .nil) .nil)))
noncomputable def lB:Ss:=(.cons (.par 5 6 (.cons (.bin .mul (.tup (.cons (.bin .mul (.blt .str (.cons (.call "_law_pick" (.cons (.var 0) (.cons (.cst (.int 3)) (.cons (.cst (.int 10)) .nil)))) .nil)) (.cst (.int 4))) .nil)) (.cst (.int 6))) (.cons (.cst (.int 3)) .nil)))
 (.cons (.set 7 (.tup (.cons (.bin .add (.cst (.int 3)) (.call "_law_pick" (.cons (.var 0) (.cons (.cst (.int 4)) (.cons (.cst (.int 3)) .nil))))) (.cons (.call "_law_pick" (.cons (.var 0) (.cons (.cst (.int 5)) (.cons (.cst (.int 3)) .nil)))) .nil))))
 (.cons (.for_ (.one 8) (.seq (.lst (.cons (.sub (.tup (.cons (.tup (.cons (.cst (.int 4)) (.cons (.cst (.int 1)) .nil))) (.cons (.tup (.cons (.cst (.int 5)) (.cons (.cst (.int 0)) .nil))) (.cons (.tup (.cons (.cst (.int 5)) (.cons (.cst (.int 1)) .nil))) (.cons (.tup (.cons (.cst (.int 4)) (.cons (.cst (.int 0)) .nil))) (.cons (.tup (.cons (.cst (.int 5)) (.cons (.cst (.int 3)) .nil))) .nil)))))) (.call "_law_pick" (.cons (.var 0) (.cons (.cst (.int 8)) (.cons (.cst (.int 5)) .nil))))) .nil))) Kr)
 lC)))
noncomputable def dL:Def:=⟨["_law_script","_law_low","_law_up","_law_floor","_law_walker","_law_flat","_law_size","_law_start","_law_goal","_law_cost","_law_told","_law_row","_law_few","_law_number","_law_rooms_in","_law_held"],1,(.cons (.par 1 2 (.cons (.call "_law_pick" (.cons (.var 0) (.cons (.cst (.int 0)) (.cons (.cst (.int 6)) .nil)))) (.cons (.bin .add (.cst (.int 1)) (.call "_law_pick" (.cons (.var 0) (.cons (.cst (.int 1)) (.cons (.cst (.int 3)) .nil))))) .nil)))
 (.cons (.set 3 (.tup (.cons (.bin .add (.blt .str (.cons (.bin .add (.var 1) (.cst (.int 1))) .nil)) (.blt .str (.cons (.bin .add (.var 1) (.cst (.int 2))) .nil))) (.cons (.bin .add (.blt .str (.cons (.var 1) .nil)) (.blt .str (.cons (.bin .add (.var 1) (.cst (.int 3))) .nil))) .nil))))
 (.cons (.set 4 (.tup (.cons (.cst (.bl false)) (.cons (.bin .add (.cst (.int 3)) (.call "_law_pick" (.cons (.var 0) (.cons (.cst (.int 2)) (.cons (.cst (.int 7)) .nil))))) (.cons (.var 2) .nil)))))
 (.cons (.ite (.cmp .ne (.call "least_way" (.cons (.var 3) (.cons (.var 4) (.cons (.tup (.cons (.cst (.int 0)) (.cons (.cst (.int 0)) .nil))) (.cons (.tup (.cons (.cst (.int 1)) (.cons (.cst (.int 1)) .nil))) .nil))))) (.tup (.cons (.bin .add (.cst (.int 4)) (.bin .mul (.cst (.int 2)) (.var 2))) (.cons (.lst (.cons (.tup (.cons (.cst (.int 0)) (.cons (.cst (.int 0)) .nil))) (.cons (.tup (.cons (.cst (.int 0)) (.cons (.cst (.int 1)) .nil))) (.cons (.tup (.cons (.cst (.int 1)) (.cons (.cst (.int 1)) .nil))) .nil)))) .nil)))) (.cons (.ret (.cst (.bl false))) .nil) .nil)
 (.cons (.ite (.cmp .ne (.call "cost_of" (.cons (.var 3) (.cons (.var 4) (.cons (.lst (.cons (.tup (.cons (.cst (.int 0)) (.cons (.cst (.int 0)) .nil))) (.cons (.tup (.cons (.cst (.int 1)) (.cons (.cst (.int 0)) .nil))) (.cons (.tup (.cons (.cst (.int 1)) (.cons (.cst (.int 1)) .nil))) .nil)))) .nil)))) (.bin .add (.cst (.int 4)) (.bin .mul (.cst (.int 3)) (.var 2)))) (.cons (.ret (.cst (.bl false))) .nil) .nil)
 lB))))),none⟩
theorem BX:d_law=dL:=rfl
theorem sm(i j:Int)(h:aO i=true):(aO i||aO j)=true:=by rw [h];rfl
theorem s2(j:Int):(aO 2||aO j)=true:=sm 2 j (by decide)
theorem s3(j:Int):(aO 3||aO j)=true:=sm 3 j (by decide)
theorem strN{v:Nat}(h:v<10):cR .str [.int (v:Int)]=.ok (.str ⟨#[48+v]⟩):=by
 have:=yR (v:=(v:Int)) (by omega) (by omega)
 rwa [Int.toNat_natCast] at this
def pk(F:bj)(ns:List Int)(k q:Int)(m:Nat):Prop:=F "_law_pick" [rH ns,.int k,.int q]=.ok (.int (m:Int))
theorem Gp(ns:List Int){b d e:Nat}(hb:b<3)(hd:d<3)(he:e<9)(p6:pk (den kf) ns 6 3 d)(p7:pk (den kf) ns 7 9 e)(s1 s3 s4 s5 s6 s7 s8 s9 Gj:Ci.Slot):
 ax (den kf) lC [.val (rH ns),s1,.val (.int (1+(b:Int))),s3,s4,s5,s6,s7,s8,s9,Gj,.no,.no,.no,.no,.no]=.ok (.rt (.bl true)):=by
 have c:=List.all_eq_true.1 fC b (List.mem_range.2 hb)
 simp only [Bool.and_eq_true] at c;obtain⟨⟨c1,c2⟩,c3⟩:=c
 obtain⟨q1,a1,b1⟩:=gF c1
 obtain⟨q2,a2,b2⟩:=gF c2
 obtain⟨q3,a3,b3⟩:=gF c3
 obtain⟨q4,a4,b4⟩:=gF (all2 Mt hb hd)
 obtain⟨q5,a5,b5⟩:=gF (fD hb he)
 simp only [pap,Lq,held] at a1 a2 a3 a4 a5 b5;unfold pk at p6 p7;simp only [lC,ak,ai,aj,ax,bu,aA,aB,bU,bS,aF,aJ,aG,Nat.reduceAdd,Nat.reduceSub,reduceIte,J,J2,forL,a1,a2,a3,a4,b1,b2,b3,b4,p6,p7,a5,b5]
theorem Fj(ns:List Int){b x y h:Nat}{g0 g1:Int}{j:Nat}(hb:b<3)(hh:h<10)(hx:x<3)(hy:y<3)(p3:pk (den kf) ns 3 10 h)(p4:pk (den kf) ns 4 3 x)(p5:pk (den kf) ns 5 3 y)(p8:pk (den kf) ns 8 5 j)
 (hj:aQ (.tup [sp 4 1,sp 5 0,sp 5 1,sp 4 0,sp 5 3]) (.int (j:Int))=.ok (sp g0 g1)) (og:O [g0,g1]) (hc:cH [g0,g1]=[1,0]∨[g0,g1]=[5,3]) (s1 s3 s4:Ci.Slot)
 (hC:∀s1 s3 s4 s5 s6 s7 s8 s9 Gj:Ci.Slot,ax (den kf) lC [.val (rH ns),s1,.val (.int (1+(b:Int))),s3,s4,s5,s6,s7,s8,s9,Gj,.no,.no,.no,.no,.no]=.ok (.rt (.bl true))):
 ax (den kf) lB [.val (rH ns),s1,.val (.int (1+(b:Int))),s3,s4,.no,.no,.no,.no,.no,.no,.no,.no,.no,.no,.no]=.ok (.rt (.bl true)):=by
 have os:O [3+(x:Int),(y:Int)]:=⟨_,_,rfl,by simp only [iz];omega⟩
 have bs:cH [3+(x:Int),(y:Int)]=[1,0]:=by
  have h1:(3+(x:Int))/3=1:=by omega
  have h2:(y:Int)/3=0:=by omega
  simp only [cH,List.map_cons,List.map_nil,h1,h2]
 obtain⟨ys,e,⟨a,ha⟩,z,hz⟩:=Mw hh (pr:=1+(b:Int)) ⟨by decide,by omega,by omega,by decide⟩ os og (hc.imp (fun q=>q.trans bs.symm) fun q=>⟨q,bs⟩)
 have e0:aQ (.lst ys) (.int 0)=.ok (sp (3+(x:Int)) (y:Int)):=by
  rw [ha];show Res.of (oj _ ((0:Nat):Int))=_
  rw [kK (k:=0) (by simp)]
  rfl
 have e1:aQ (.lst ys) (.int (-1))=.ok (sp g0 g1):=by rw [hz];exact sO z _
 have m1:binOp .mul (.str ⟨#[48+h]⟩) (.int 4)=.ok (.str (CT h)):=rfl
 have m2:binOp .mul (.tup [.str (CT h)]) (.int 6)=.ok (fl (flat h)):=rfl
 have ef:den kf "by_gates" [fl (flat h),.tup [.bl false,.int 0,.int (1+(b:Int))],.int 3,sp (3+(x:Int)) (y:Int),sp g0 g1]=.ok (.tup [.int (2*mh [3+(x:Int),(y:Int)] [g0,g1]),.lst ys]):=e
 have E5:2*mh [3+(x:Int),(y:Int)] [g0,g1]=2*(if g0-(3+(x:Int))<0 then -(g0-(3+(x:Int))) else g0-(3+(x:Int)))+2*(if g1-(y:Int)<0 then -(g1-(y:Int)) else g1-(y:Int)):=by
  simp only [mh];split<;>split<;>omega
 rw [E5] at ef;have t0:∀p q:PV,aQ (.tup [p,q]) (.int 0)=.ok p:=fun _ _=>rfl
 have t1:∀p q:PV,aQ (.tup [p,q]) (.int 1)=.ok q:=fun _ _=>rfl
 have Ng:∀xs:List PV,rg (.tup xs) .non=.ok (.bl false):=fun _=>rfl
 have st:=strN hh
 unfold pk at p3 p4 p5 p8;simp only [lB,Kr,ak,ai,aj,ax,bu,aA,aB,bU,bS,aF,aJ,aG,Nat.reduceAdd,Nat.reduceSub,reduceIte,J,J2,forL,p3,p4,p5,p8,hj,st,m1,m2,s2,ef,t0,t1,e0,e1,Ng,BEq.rfl,Bool.and_self,Bool.not_true,hC]
theorem FL(ns:List Int)(hl:ns.length≤63):ak (den kf) d_law [rH ns]=.ok (.bl true):=by
 have pick:∀k q:Nat,0<q→∃m:Nat,pk (den kf) ns k q m∧m<q:=fun k q hq=>by
  obtain⟨m,e,h0,h1⟩:=AL (den T1) (fun ns k hk=>by rw [EW];exact yA _ ns k hk) ns (k:Int) (q:Int) (by omega) (by omega)
  obtain⟨n,rfl⟩:=Int.eq_ofNat_of_zero_le h0
  exact⟨n,by unfold pk;rw [Cz];exact e,by omega⟩
 obtain⟨a,p0,ha⟩:=pick 0 6 (by decide)
 obtain⟨b,p1,hb⟩:=pick 1 3 (by decide)
 obtain⟨c,p2,hc⟩:=pick 2 7 (by decide)
 obtain⟨h,p3,hh⟩:=pick 3 10 (by decide)
 obtain⟨x,p4,hx⟩:=pick 4 3 (by decide)
 obtain⟨y,p5,hy⟩:=pick 5 3 (by decide)
 obtain⟨d,p6,hd⟩:=pick 6 3 (by decide)
 obtain⟨e,p7,he⟩:=pick 7 9 (by decide)
 obtain⟨j,p8,hj⟩:=pick 8 5 (by decide)
 have goal:∃g0 g1:Int,aQ (.tup [sp 4 1,sp 5 0,sp 5 1,sp 4 0,sp 5 3]) (.int (j:Int))=.ok (sp g0 g1)∧O [g0,g1]∧(cH [g0,g1]=[1,0]∨[g0,g1]=[5,3]):=by
  match j,hj with
  |0,_=>exact⟨4,1,rfl,⟨_,_,rfl,by simp only [iz];omega⟩,.inl rfl⟩
  |1,_=>exact⟨5,0,rfl,⟨_,_,rfl,by simp only [iz];omega⟩,.inl rfl⟩
  |2,_=>exact⟨5,1,rfl,⟨_,_,rfl,by simp only [iz];omega⟩,.inl rfl⟩
  |3,_=>exact⟨4,0,rfl,⟨_,_,rfl,by simp only [iz];omega⟩,.inl rfl⟩
  |4,_=>exact⟨5,3,rfl,⟨_,_,rfl,by simp only [iz];omega⟩,.inr rfl⟩
 obtain⟨g0,g1,eg,og,hg⟩:=goal
 obtain⟨q1,a1,b1⟩:=gF (fA ha hb hc)
 obtain⟨q2,a2,b2⟩:=gF (Jy NJ ha hb hc)
 simp only [Ju,Fi,GP] at a1 a2 b1;have t0:=strN (v:=a) (by omega)
 have t1:cR .str [.int ((a:Int)+1)]=.ok (.str ⟨#[48+(a+1)]⟩):=strN (v:=a+1) (by omega)
 have t2:cR .str [.int ((a:Int)+2)]=.ok (.str ⟨#[48+(a+2)]⟩):=strN (v:=a+2) (by omega)
 have t3:cR .str [.int ((a:Int)+3)]=.ok (.str ⟨#[48+(a+3)]⟩):=strN (v:=a+3) (by omega)
 have l1:∀x y:Nat,(⟨#[x]⟩:Str).length+(⟨#[y]⟩:Str).length≤fH:=fun x y=>(by decide:2≤fH)
 have eB:=Fj ns hb hh hx hy p3 p4 p5 p8 eg og hg (.val (.int (a:Int))) (.val (.tup [.str (⟨#[48+(a+1)]⟩++⟨#[48+(a+2)]⟩),.str (⟨#[48+a]⟩++⟨#[48+(a+3)]⟩)])) (.val (.tup [.bl false,.int (3+(c:Int)),.int (1+(b:Int))])) (fun s1 s3 s4 s5 s6 s7 s8 s9 Gj=>Gp ns hb hd he p6 p7 s1 s3 s4 s5 s6 s7 s8 s9 Gj)
 have p0:den kf "_law_pick" [rH ns,.int 0,.int 6]=.ok (.int (a:Int)):=p0
 have p1:den kf "_law_pick" [rH ns,.int 1,.int 3]=.ok (.int (b:Int)):=p1
 have p2:den kf "_law_pick" [rH ns,.int 2,.int 7]=.ok (.int (c:Int)):=p2
 rw [BX];simp only [dL,ak,ai,aj,ax,bu,aA,aB,bU,bS,aF,aJ,aG,Nat.reduceAdd,Nat.reduceSub,reduceIte,J,J2,p0,p1,p2,t0,t1,t2,t3,l1,a1,b1,a2,b2,s2,s3,eB]
end K98
namespace Hd
open PySem PySem.W L2
noncomputable abbrev fo(n:Str)(st:Stmt)(pm:Value)(c:Addr):Obj:=⟨.type "function",none,.func (fnOf n n (defArgs st) (defBody st) (defScope st) .none .none .none pm none (.ref c) .none),#[]⟩
def dpos(s:Stmt):Pos:=match s with
 |.FunctionDef _ _ _ _ _ _ _ _ _ p=>p
 |_=>⟨0,0,0,0⟩
theorem ent{K:Frag}{ts:List (Addr×Str)}{n:Str}{st:Stmt}(f c:Addr)(pm:Value)(a:nsIn K mainGlobals n=some (some (.ref f)):=by kernel_rfl)(l:K.lookup f=some (fo n st pm c):=by kernel_rfl)(d:codeIn K (.ref c) n=true:=by kernel_rfl)(k:keepIn K (.ref f)=true:=by kernel_rfl):Ci.EntK K ts false n st:=Ci.entK a l d k
theorem entL{K:Frag}{ts:List (Addr×Str)}{n:Str}{st:Stmt}(f c p:Addr)(pm:Value)(ck:Ci.CodeK K c p)(m:(p,Ci.lamQ n)∈ts)(u:∀q∈ts,q.1=p→q.2=Ci.lamQ n)(a:nsIn K mainGlobals n=some (some (.ref f)):=by kernel_rfl)(l:K.lookup f=some (fo n st pm c):=by kernel_rfl)(d:codeIn K (.ref c) n=true:=by kernel_rfl)(k:keepIn K (.ref f)=true:=by kernel_rfl):Ci.EntK K ts true n st:=⟨f,_,_,_,_,_,_,_,_,_,a,l,d,k,fun _=>⟨c,p,rfl,ck,m,fun q' h=>u _ h rfl⟩⟩
theorem look_app{K L:Frag}{b:Addr}{o:Obj}(e:K.lookup b=some o):(K++L).lookup b=some o:=by
 rw [List.lookup_append,e]
 rfl
end Hd
namespace K98
open PySem L2 Ci
abbrev lw:=PySem.Challenge.rw_cellways_k98_whole_edges_by_hand
def top(i:Nat):Stmt:=PySem.Challenge.pw_cellways_k98_whole_edges_by_hand.main.body.getD i (.Pass ⟨0,0,0,0⟩)
noncomputable def K(P:Params):PySem.W.Frag:=[(2,{cls:=.none,data:=.dict #[]}),
 (3,{cls:=.type "dict",data:=.dict #[Hd.de P "__name__" 165 (.str "law_cellways_k98_whole_edges_by_hand" 636),Hd.de P "__doc__" 166 (.none),Hd.de P "__package__" 167 (.none),Hd.de P "__loader__" 168 (.builtin "__main__.__loader__#opaque"),Hd.de P "__spec__" 169 (.none),Hd.de P "__annotations__" 170 (.ref 6),Hd.de P "__builtins__" 171 (.ref 4),Hd.de P "__file__" 173 (.str "/claim/cut.py" 172),Hd.de P "__cached__" 174 (.none),Hd.de P "FloorError" 206 (.ref 24),Hd.de P "NoSpot" 222 (.ref 37),Hd.de P "NoWay" 238 (.ref 49),Hd.de P "NoSize" 254 (.ref 61),Hd.de P "WALL" 258 (.str "#" 257),Hd.de P "LONGEST" 260 (.int 12 259),Hd.de P "STRAIGHT_COST" 262 (.int 2 261),Hd.de P "SLANTING_COST" 264 (.int 3 263),Hd.de P "is_whole" 271 (.ref 70),Hd.de P "is_spot" 278 (.ref 77),Hd.de P "is_on_floor" 286 (.ref 84),Hd.de P "is_open" 294 (.ref 91),Hd.de P "need_open" 302 (.ref 98),Hd.de P "open_spots" 314 (.ref 105),Hd.de P "height_at" 322 (.ref 112),Hd.de P "open_spots_beside" 333 (.ref 119),Hd.de P "are_beside" 341 (.ref 126),Hd.de P "has_open_corners" 350 (.ref 133),Hd.de P "step_cost" 363 (.ref 140),Hd.de P "steps_from" 375 (.ref 147),Hd.de P "steps_to" 381 (.ref 152),Hd.de P "steps_over" 387 (.ref 157),Hd.de P "is_list_of_open_spots" 393 (.ref 162),Hd.de P "is_way" 402 (.ref 169),Hd.de P "costs_along" 408 (.ref 174),Hd.de P "need_way" 417 (.ref 181),Hd.de P "cost_of" 426 (.ref 188),Hd.de P "spread" 443 (.ref 195),Hd.de P "spread_from" 454 (.ref 202),Hd.de P "spread_to" 466 (.ref 209),Hd.de P "traced" 475 (.ref 216),Hd.de P "least_way" 486 (.ref 223),Hd.de P "is_entry" 494 (.ref 230),Hd.de P "has_rising_entries" 500 (.ref 235),Hd.de P "is_paper" 506 (.ref 240),Hd.de P "keeps_steps_to" 518 (.ref 247),Hd.de P "need_size" 527 (.ref 254),Hd.de P "block_of" 537 (.ref 261),Hd.de P "steps_within" 543 (.ref 266),Hd.de P "steps_out" 549 (.ref 271),Hd.de P "gates" 555 (.ref 276),Hd.de P "hops_from" 561 (.ref 281),Hd.de P "by_gates" 577 (.ref 288),Hd.de P "room_with" 588 (.ref 295),Hd.de P "rooms" 601 (.ref 302),Hd.de P "needs_open" 610 (.ref 309),Hd.de P "reached_past" 623 (.ref 316),Hd.de P "is_narrow" 629 (.ref 321),Hd.de P "narrow_spots" 635 (.ref 326),Hd.de P "_law_cell" 645 (.ref 333),Hd.de P "_law_pick" 655 (.ref 340),Hd.de P "law" 677 (.ref 347)] 61}),
 (4,{cls:=.type "module",dict:=some builtinsNs,data:=.plain}),
 (23,{cls:=.type "dict",data:=.dict #[Hd.de P "__module__" 196 (.str "cellways.errors" 187),Hd.de P "__firstlineno__" 200 (.int 2 199),Hd.de P "__static_attributes__" 201 (.ref 22),Hd.de P "__weakref__" 203 (.ref 25),Hd.de P "__doc__" 204 (.none)] 3}),
 (24,{cls:=.type "type",data:=.cls {name:="FloorError",bases:=[.type "ValueError"],mro:=[.ref 24,.type "ValueError",.type "Exception",.type "BaseException",.type "object"],ns:=23,qualname:="FloorError",subclasses:=[.ref 37,.ref 49,.ref 61]},slots:=#[some (.ref 15),none,some (.str "FloorError" 189),some (.str "FloorError" 197),some (.builtin "ValueError.__new__"),some (.bool Bool.true)]}),
 (36,{cls:=.type "dict",data:=.dict #[Hd.de P "__module__" 214 (.str "cellways.errors" 187),Hd.de P "__firstlineno__" 218 (.int 4 217),Hd.de P "__static_attributes__" 219 (.ref 35),Hd.de P "__doc__" 220 (.none)] 2}),
 (37,{cls:=.type "type",data:=.cls {name:="NoSpot",bases:=[.ref 24],mro:=[.ref 37,.ref 24,.type "ValueError",.type "Exception",.type "BaseException",.type "object"],ns:=36,qualname:="NoSpot"},slots:=#[some (.ref 28),none,some (.str "NoSpot" 207),some (.str "NoSpot" 215),some (.builtin "ValueError.__new__"),some (.bool Bool.true)]}),
 (48,{cls:=.type "dict",data:=.dict #[Hd.de P "__module__" 230 (.str "cellways.errors" 187),Hd.de P "__firstlineno__" 234 (.int 6 233),Hd.de P "__static_attributes__" 235 (.ref 47),Hd.de P "__doc__" 236 (.none)] 2}),
 (49,{cls:=.type "type",data:=.cls {name:="NoWay",bases:=[.ref 24],mro:=[.ref 49,.ref 24,.type "ValueError",.type "Exception",.type "BaseException",.type "object"],ns:=48,qualname:="NoWay"},slots:=#[some (.ref 40),none,some (.str "NoWay" 223),some (.str "NoWay" 231),some (.builtin "ValueError.__new__"),some (.bool Bool.true)]}),
 (60,{cls:=.type "dict",data:=.dict #[Hd.de P "__module__" 246 (.str "cellways.errors" 187),Hd.de P "__firstlineno__" 250 (.int 8 249),Hd.de P "__static_attributes__" 251 (.ref 59),Hd.de P "__doc__" 252 (.none)] 2}),
 (61,{cls:=.type "type",data:=.cls {name:="NoSize",bases:=[.ref 24],mro:=[.ref 61,.ref 24,.type "ValueError",.type "Exception",.type "BaseException",.type "object"],ns:=60,qualname:="NoSize"},slots:=#[some (.ref 52),none,some (.str "NoSize" 239),some (.str "NoSize" 247),some (.builtin "ValueError.__new__"),some (.bool Bool.true)]}),
 (69,{cls:=.type "code",data:=.fields #[.str "is_whole" 265,.str "is_whole" 266,.str "/claim/cut.py" 267,.int 15 0,.int 1 0,.int 0 0,.int 0 0,.int 3 0,.ref 64,.bool Bool.true,.int 181 0,.ref 65,.none,.ref 66,.ref 67,.ref 68,.int 269 0,.int 15 0,.str "/claim/cut.py" 270]}),
 (70,Hd.fo "is_whole" (top 10) (.str "cellways.floors" 255) 69),
 (76,{cls:=.type "code",data:=.fields #[.str "is_spot" 272,.str "is_spot" 273,.str "/claim/cut.py" 274,.int 17 0,.int 1 0,.int 0 0,.int 0 0,.int 3 0,.ref 71,.bool Bool.true,.int 181 0,.ref 72,.none,.ref 73,.ref 74,.ref 75,.int 276 0,.int 17 0,.str "/claim/cut.py" 277]}),
 (77,Hd.fo "is_spot" (top 11) (.str "cellways.floors" 255) 76),
 (83,{cls:=.type "code",data:=.fields #[.str "is_on_floor" 279,.str "is_on_floor" 280,.str "/claim/cut.py" 281,.int 19 0,.int 2 0,.int 0 0,.int 0 0,.int 3 0,.ref 78,.bool Bool.true,.int 181 0,.ref 79,.none,.ref 80,.ref 81,.ref 82,.int 284 0,.int 19 0,.str "/claim/cut.py" 285]}),
 (84,Hd.fo "is_on_floor" (top 12) (.str "cellways.floors" 255) 83),
 (90,{cls:=.type "code",data:=.fields #[.str "is_open" 287,.str "is_open" 288,.str "/claim/cut.py" 289,.int 21 0,.int 2 0,.int 0 0,.int 0 0,.int 3 0,.ref 85,.bool Bool.true,.int 181 0,.ref 86,.none,.ref 87,.ref 88,.ref 89,.int 292 0,.int 21 0,.str "/claim/cut.py" 293]}),
 (91,Hd.fo "is_open" (top 13) (.str "cellways.floors" 255) 90),
 (97,{cls:=.type "code",data:=.fields #[.str "need_open" 295,.str "need_open" 296,.str "/claim/cut.py" 297,.int 23 0,.int 2 0,.int 0 0,.int 0 0,.int 3 0,.ref 92,.bool Bool.true,.int 181 0,.ref 93,.none,.ref 94,.ref 95,.ref 96,.int 300 0,.int 23 0,.str "/claim/cut.py" 301]}),
 (98,Hd.fo "need_open" (top 14) (.str "cellways.floors" 255) 97),
 (104,{cls:=.type "code",data:=.fields #[.str "open_spots" 303,.str "open_spots" 304,.str "/claim/cut.py" 305,.int 26 0,.int 1 0,.int 0 0,.int 0 0,.int 3 0,.ref 99,.bool Bool.true,.int 181 0,.ref 100,.none,.ref 101,.ref 102,.ref 103,.int 312 0,.int 26 0,.str "/claim/cut.py" 313]}),
 (105,Hd.fo "open_spots" (top 15) (.str "cellways.floors" 255) 104),
 (111,{cls:=.type "code",data:=.fields #[.str "height_at" 315,.str "height_at" 316,.str "/claim/cut.py" 317,.int 33 0,.int 2 0,.int 0 0,.int 0 0,.int 3 0,.ref 106,.bool Bool.true,.int 181 0,.ref 107,.none,.ref 108,.ref 109,.ref 110,.int 320 0,.int 33 0,.str "/claim/cut.py" 321]}),
 (112,Hd.fo "height_at" (top 16) (.str "cellways.floors" 255) 111),
 (118,{cls:=.type "code",data:=.fields #[.str "open_spots_beside" 323,.str "open_spots_beside" 324,.str "/claim/cut.py" 325,.int 36 0,.int 2 0,.int 0 0,.int 0 0,.int 3 0,.ref 113,.bool Bool.true,.int 181 0,.ref 114,.none,.ref 115,.ref 116,.ref 117,.int 331 0,.int 36 0,.str "/claim/cut.py" 332]}),
 (119,Hd.fo "open_spots_beside" (top 17) (.str "cellways.floors" 255) 118),
 (125,{cls:=.type "code",data:=.fields #[.str "are_beside" 334,.str "are_beside" 335,.str "/claim/cut.py" 336,.int 43 0,.int 2 0,.int 0 0,.int 0 0,.int 3 0,.ref 120,.bool Bool.true,.int 181 0,.ref 121,.none,.ref 122,.ref 123,.ref 124,.int 339 0,.int 43 0,.str "/claim/cut.py" 340]}),
 (126,Hd.fo "are_beside" (top 18) (.str "cellways.floors" 255) 125),
 (132,{cls:=.type "code",data:=.fields #[.str "has_open_corners" 342,.str "has_open_corners" 343,.str "/claim/cut.py" 344,.int 45 0,.int 3 0,.int 0 0,.int 0 0,.int 3 0,.ref 127,.bool Bool.true,.int 181 0,.ref 128,.none,.ref 129,.ref 130,.ref 131,.int 348 0,.int 45 0,.str "/claim/cut.py" 349]}),
 (133,Hd.fo "has_open_corners" (top 19) (.str "cellways.floors" 255) 132),
 (139,{cls:=.type "code",data:=.fields #[.str "step_cost" 351,.str "step_cost" 352,.str "/claim/cut.py" 353,.int 47 0,.int 4 0,.int 0 0,.int 0 0,.int 3 0,.ref 134,.bool Bool.true,.int 181 0,.ref 135,.none,.ref 136,.ref 137,.ref 138,.int 361 0,.int 47 0,.str "/claim/cut.py" 362]}),
 (140,Hd.fo "step_cost" (top 20) (.str "cellways.floors" 255) 139),
 (146,{cls:=.type "code",data:=.fields #[.str "steps_from" 364,.str "steps_from" 365,.str "/claim/cut.py" 366,.int 58 0,.int 3 0,.int 0 0,.int 0 0,.int 3 0,.ref 141,.bool Bool.true,.int 181 0,.ref 142,.none,.ref 143,.ref 144,.ref 145,.int 373 0,.int 58 0,.str "/claim/cut.py" 374]}),
 (147,Hd.fo "steps_from" (top 21) (.str "cellways.floors" 255) 146),
 (151,{cls:=.type "code",data:=.fields #[.str "steps_to" 376,.str "steps_to" 377,.str "/claim/cut.py" 378,.int 66 0,.int 3 0,.int 0 0,.int 0 0,.int 3 0,.ref 148,.bool Bool.true,.int 181 0,.ref 149,.none,.none,.none,.ref 150,.int 379 0,.int 66 0,.str "/claim/cut.py" 380]}),
 (152,Hd.fo "steps_to" (top 22) (.str "cellways.floors" 255) 151),
 (156,{cls:=.type "code",data:=.fields #[.str "steps_over" 382,.str "steps_over" 383,.str "/claim/cut.py" 384,.int 68 0,.int 2 0,.int 0 0,.int 0 0,.int 3 0,.ref 153,.bool Bool.true,.int 181 0,.ref 154,.none,.none,.none,.ref 155,.int 385 0,.int 68 0,.str "/claim/cut.py" 386]}),
 (157,Hd.fo "steps_over" (top 23) (.str "cellways.floors" 255) 156),
 (161,{cls:=.type "code",data:=.fields #[.str "is_list_of_open_spots" 388,.str "is_list_of_open_spots" 389,.str "/claim/cut.py" 390,.int 73 0,.int 2 0,.int 0 0,.int 0 0,.int 3 0,.ref 158,.bool Bool.true,.int 181 0,.ref 159,.none,.none,.none,.ref 160,.int 391 0,.int 73 0,.str "/claim/cut.py" 392]}),
 (162,Hd.fo "is_list_of_open_spots" (top 24) (.str "cellways.floors" 255) 161),
 (168,{cls:=.type "code",data:=.fields #[.str "is_way" 394,.str "is_way" 395,.str "/claim/cut.py" 396,.int 77 0,.int 3 0,.int 0 0,.int 0 0,.int 3 0,.ref 163,.bool Bool.true,.int 181 0,.ref 164,.none,.ref 165,.ref 166,.ref 167,.int 400 0,.int 77 0,.str "/claim/cut.py" 401]}),
 (169,Hd.fo "is_way" (top 25) (.str "cellways.floors" 255) 168),
 (173,{cls:=.type "code",data:=.fields #[.str "costs_along" 403,.str "costs_along" 404,.str "/claim/cut.py" 405,.int 79 0,.int 3 0,.int 0 0,.int 0 0,.int 3 0,.ref 170,.bool Bool.true,.int 181 0,.ref 171,.none,.none,.none,.ref 172,.int 406 0,.int 79 0,.str "/claim/cut.py" 407]}),
 (174,Hd.fo "costs_along" (top 26) (.str "cellways.floors" 255) 173),
 (180,{cls:=.type "code",data:=.fields #[.str "need_way" 409,.str "need_way" 410,.str "/claim/cut.py" 411,.int 81 0,.int 3 0,.int 0 0,.int 0 0,.int 3 0,.ref 175,.bool Bool.true,.int 181 0,.ref 176,.none,.ref 177,.ref 178,.ref 179,.int 415 0,.int 81 0,.str "/claim/cut.py" 416]}),
 (181,Hd.fo "need_way" (top 27) (.str "cellways.floors" 255) 180),
 (187,{cls:=.type "code",data:=.fields #[.str "cost_of" 418,.str "cost_of" 419,.str "/claim/cut.py" 420,.int 84 0,.int 3 0,.int 0 0,.int 0 0,.int 3 0,.ref 182,.bool Bool.true,.int 181 0,.ref 183,.none,.ref 184,.ref 185,.ref 186,.int 424 0,.int 84 0,.str "/claim/cut.py" 425]}),
 (188,Hd.fo "cost_of" (top 28) (.str "cellways.floors" 255) 187),
 (194,{cls:=.type "code",data:=.fields #[.str "spread" 429,.str "spread" 430,.str "/claim/cut.py" 431,.int 88 0,.int 2 0,.int 0 0,.int 0 0,.int 3 0,.ref 189,.bool Bool.true,.int 181 0,.ref 190,.none,.ref 191,.ref 192,.ref 193,.int 441 0,.int 88 0,.str "/claim/cut.py" 442]}),
 (195,Hd.fo "spread" (top 30) (.str "cellways.ways" 427) 194),
 (201,{cls:=.type "code",data:=.fields #[.str "spread_from" 444,.str "spread_from" 445,.str "/claim/cut.py" 446,.int 101 0,.int 3 0,.int 0 0,.int 0 0,.int 3 0,.ref 196,.bool Bool.true,.int 181 0,.ref 197,.none,.ref 198,.ref 199,.ref 200,.int 452 0,.int 101 0,.str "/claim/cut.py" 453]}),
 (202,Hd.fo "spread_from" (top 31) (.str "cellways.ways" 427) 201),
 (208,{cls:=.type "code",data:=.fields #[.str "spread_to" 455,.str "spread_to" 456,.str "/claim/cut.py" 457,.int 104 0,.int 3 0,.int 0 0,.int 0 0,.int 3 0,.ref 203,.bool Bool.true,.int 181 0,.ref 204,.none,.ref 205,.ref 206,.ref 207,.int 464 0,.int 104 0,.str "/claim/cut.py" 465]}),
 (209,Hd.fo "spread_to" (top 32) (.str "cellways.ways" 427) 208),
 (215,{cls:=.type "code",data:=.fields #[.str "traced" 467,.str "traced" 468,.str "/claim/cut.py" 469,.int 108 0,.int 2 0,.int 0 0,.int 0 0,.int 3 0,.ref 210,.bool Bool.true,.int 181 0,.ref 211,.none,.ref 212,.ref 213,.ref 214,.int 473 0,.int 108 0,.str "/claim/cut.py" 474]}),
 (216,Hd.fo "traced" (top 33) (.str "cellways.ways" 427) 215),
 (222,{cls:=.type "code",data:=.fields #[.str "least_way" 476,.str "least_way" 477,.str "/claim/cut.py" 478,.int 113 0,.int 4 0,.int 0 0,.int 0 0,.int 3 0,.ref 217,.bool Bool.true,.int 181 0,.ref 218,.none,.ref 219,.ref 220,.ref 221,.int 484 0,.int 113 0,.str "/claim/cut.py" 485]}),
 (223,Hd.fo "least_way" (top 34) (.str "cellways.ways" 427) 222),
 (229,{cls:=.type "code",data:=.fields #[.str "is_entry" 487,.str "is_entry" 488,.str "/claim/cut.py" 489,.int 119 0,.int 2 0,.int 0 0,.int 0 0,.int 3 0,.ref 224,.bool Bool.true,.int 181 0,.ref 225,.none,.ref 226,.ref 227,.ref 228,.int 492 0,.int 119 0,.str "/claim/cut.py" 493]}),
 (230,Hd.fo "is_entry" (top 35) (.str "cellways.ways" 427) 229),
 (234,{cls:=.type "code",data:=.fields #[.str "has_rising_entries" 495,.str "has_rising_entries" 496,.str "/claim/cut.py" 497,.int 123 0,.int 2 0,.int 0 0,.int 0 0,.int 3 0,.ref 231,.bool Bool.true,.int 181 0,.ref 232,.none,.none,.none,.ref 233,.int 498 0,.int 123 0,.str "/claim/cut.py" 499]}),
 (235,Hd.fo "has_rising_entries" (top 36) (.str "cellways.ways" 427) 234),
 (239,{cls:=.type "code",data:=.fields #[.str "is_paper" 501,.str "is_paper" 502,.str "/claim/cut.py" 503,.int 127 0,.int 4 0,.int 0 0,.int 0 0,.int 3 0,.ref 236,.bool Bool.true,.int 181 0,.ref 237,.none,.none,.none,.ref 238,.int 504 0,.int 127 0,.str "/claim/cut.py" 505]}),
 (240,Hd.fo "is_paper" (top 37) (.str "cellways.ways" 427) 239),
 (246,{cls:=.type "code",data:=.fields #[.str "keeps_steps_to" 507,.str "keeps_steps_to" 508,.str "/claim/cut.py" 509,.int 134 0,.int 4 0,.int 0 0,.int 0 0,.int 3 0,.ref 241,.bool Bool.true,.int 181 0,.ref 242,.none,.ref 243,.ref 244,.ref 245,.int 516 0,.int 134 0,.str "/claim/cut.py" 517]}),
 (247,Hd.fo "keeps_steps_to" (top 38) (.str "cellways.ways" 427) 246),
 (253,{cls:=.type "code",data:=.fields #[.str "need_size" 521,.str "need_size" 522,.str "/claim/cut.py" 523,.int 140 0,.int 1 0,.int 0 0,.int 0 0,.int 3 0,.ref 248,.bool Bool.true,.int 181 0,.ref 249,.none,.ref 250,.ref 251,.ref 252,.int 525 0,.int 140 0,.str "/claim/cut.py" 526]}),
 (254,Hd.fo "need_size" (top 40) (.str "cellways.sizes" 519) 253),
 (260,{cls:=.type "code",data:=.fields #[.str "block_of" 530,.str "block_of" 531,.str "/claim/cut.py" 532,.int 144 0,.int 2 0,.int 0 0,.int 0 0,.int 3 0,.ref 255,.bool Bool.true,.int 181 0,.ref 256,.none,.ref 257,.ref 258,.ref 259,.int 535 0,.int 144 0,.str "/claim/cut.py" 536]}),
 (261,Hd.fo "block_of" (top 42) (.str "cellways.blocks" 528) 260),
 (265,{cls:=.type "code",data:=.fields #[.str "steps_within" 538,.str "steps_within" 539,.str "/claim/cut.py" 540,.int 146 0,.int 4 0,.int 0 0,.int 0 0,.int 3 0,.ref 262,.bool Bool.true,.int 181 0,.ref 263,.none,.none,.none,.ref 264,.int 541 0,.int 146 0,.str "/claim/cut.py" 542]}),
 (266,Hd.fo "steps_within" (top 43) (.str "cellways.blocks" 528) 265),
 (270,{cls:=.type "code",data:=.fields #[.str "steps_out" 544,.str "steps_out" 545,.str "/claim/cut.py" 546,.int 149 0,.int 4 0,.int 0 0,.int 0 0,.int 3 0,.ref 267,.bool Bool.true,.int 181 0,.ref 268,.none,.none,.none,.ref 269,.int 547 0,.int 149 0,.str "/claim/cut.py" 548]}),
 (271,Hd.fo "steps_out" (top 44) (.str "cellways.blocks" 528) 270),
 (275,{cls:=.type "code",data:=.fields #[.str "gates" 550,.str "gates" 551,.str "/claim/cut.py" 552,.int 152 0,.int 3 0,.int 0 0,.int 0 0,.int 3 0,.ref 272,.bool Bool.true,.int 181 0,.ref 273,.none,.none,.none,.ref 274,.int 553 0,.int 152 0,.str "/claim/cut.py" 554]}),
 (276,Hd.fo "gates" (top 45) (.str "cellways.blocks" 528) 275),
 (280,{cls:=.type "code",data:=.fields #[.str "hops_from" 556,.str "hops_from" 557,.str "/claim/cut.py" 558,.int 155 0,.int 5 0,.int 0 0,.int 0 0,.int 3 0,.ref 277,.bool Bool.true,.int 181 0,.ref 278,.none,.none,.none,.ref 279,.int 559 0,.int 155 0,.str "/claim/cut.py" 560]}),
 (281,Hd.fo "hops_from" (top 46) (.str "cellways.blocks" 528) 280),
 (287,{cls:=.type "code",data:=.fields #[.str "by_gates" 562,.str "by_gates" 563,.str "/claim/cut.py" 564,.int 159 0,.int 5 0,.int 0 0,.int 0 0,.int 3 0,.ref 282,.bool Bool.true,.int 181 0,.ref 283,.none,.ref 284,.ref 285,.ref 286,.int 575 0,.int 159 0,.str "/claim/cut.py" 576]}),
 (288,Hd.fo "by_gates" (top 47) (.str "cellways.blocks" 528) 287),
 (294,{cls:=.type "code",data:=.fields #[.str "room_with" 580,.str "room_with" 581,.str "/claim/cut.py" 582,.int 169 0,.int 3 0,.int 0 0,.int 0 0,.int 3 0,.ref 289,.bool Bool.true,.int 181 0,.ref 290,.none,.ref 291,.ref 292,.ref 293,.int 586 0,.int 169 0,.str "/claim/cut.py" 587]}),
 (295,Hd.fo "room_with" (top 49) (.str "cellways.rooms" 578) 294),
 (301,{cls:=.type "code",data:=.fields #[.str "rooms" 589,.str "rooms" 590,.str "/claim/cut.py" 591,.int 171 0,.int 2 0,.int 0 0,.int 0 0,.int 3 0,.ref 296,.bool Bool.true,.int 181 0,.ref 297,.none,.ref 298,.ref 299,.ref 300,.int 599 0,.int 171 0,.str "/claim/cut.py" 600]}),
 (302,Hd.fo "rooms" (top 50) (.str "cellways.rooms" 578) 301),
 (308,{cls:=.type "code",data:=.fields #[.str "needs_open" 602,.str "needs_open" 603,.str "/claim/cut.py" 604,.int 181 0,.int 3 0,.int 0 0,.int 0 0,.int 3 0,.ref 303,.bool Bool.true,.int 181 0,.ref 304,.none,.ref 305,.ref 306,.ref 307,.int 608 0,.int 181 0,.str "/claim/cut.py" 609]}),
 (309,Hd.fo "needs_open" (top 51) (.str "cellways.rooms" 578) 308),
 (315,{cls:=.type "code",data:=.fields #[.str "reached_past" 611,.str "reached_past" 612,.str "/claim/cut.py" 613,.int 183 0,.int 3 0,.int 0 0,.int 0 0,.int 3 0,.ref 310,.bool Bool.true,.int 181 0,.ref 311,.none,.ref 312,.ref 313,.ref 314,.int 621 0,.int 183 0,.str "/claim/cut.py" 622]}),
 (316,Hd.fo "reached_past" (top 52) (.str "cellways.rooms" 578) 315),
 (320,{cls:=.type "code",data:=.fields #[.str "is_narrow" 624,.str "is_narrow" 625,.str "/claim/cut.py" 626,.int 193 0,.int 3 0,.int 0 0,.int 0 0,.int 3 0,.ref 317,.bool Bool.true,.int 181 0,.ref 318,.none,.none,.none,.ref 319,.int 627 0,.int 193 0,.str "/claim/cut.py" 628]}),
 (321,Hd.fo "is_narrow" (top 53) (.str "cellways.rooms" 578) 320),
 (325,{cls:=.type "code",data:=.fields #[.str "narrow_spots" 630,.str "narrow_spots" 631,.str "/claim/cut.py" 632,.int 196 0,.int 2 0,.int 0 0,.int 0 0,.int 3 0,.ref 322,.bool Bool.true,.int 181 0,.ref 323,.none,.none,.none,.ref 324,.int 633 0,.int 196 0,.str "/claim/cut.py" 634]}),
 (326,Hd.fo "narrow_spots" (top 54) (.str "cellways.rooms" 578) 325),
 (332,{cls:=.type "code",data:=.fields #[.str "_law_cell" 638,.str "_law_cell" 639,.str "/claim/cut.py" 640,.int 203 0,.int 2 0,.int 0 0,.int 0 0,.int 3 0,.ref 327,.bool Bool.true,.int 181 0,.ref 328,.none,.ref 329,.ref 330,.ref 331,.int 643 0,.int 203 0,.str "/claim/cut.py" 644]}),
 (333,Hd.fo "_law_cell" (top 56) (.str "law_cellways_k98_whole_edges_by_hand" 636) 332),
 (339,{cls:=.type "code",data:=.fields #[.str "_law_pick" 646,.str "_law_pick" 647,.str "/claim/cut.py" 648,.int 209 0,.int 3 0,.int 0 0,.int 0 0,.int 3 0,.ref 334,.bool Bool.true,.int 181 0,.ref 335,.none,.ref 336,.ref 337,.ref 338,.int 653 0,.int 209 0,.str "/claim/cut.py" 654]}),
 (340,Hd.fo "_law_pick" (top 57) (.str "law_cellways_k98_whole_edges_by_hand" 636) 339),
 (346,{cls:=.type "code",data:=.fields #[.str "law" 656,.str "law" 657,.str "/claim/cut.py" 658,.int 212 0,.int 1 0,.int 0 0,.int 0 0,.int 3 0,.ref 341,.bool Bool.true,.int 181 0,.ref 342,.none,.ref 343,.ref 344,.ref 345,.int 675 0,.int 212 0,.str "/claim/cut.py" 676]}),
 (347,Hd.fo "law" (top 58) (.str "law_cellways_k98_whole_edges_by_hand" 636) 346)]
def ts:List (Addr×Str):=[(190,lamQ "spread"),(204,lamQ "spread_to"),(278,lamQ "hops_from"),(283,lamQ "by_gates"),(197,lamQ "spread_from")]
noncomputable def K2(P:Params):PySem.W.Frag:=K P++[(190,PySem.W.tabObj #[]),(204,PySem.W.tabObj #[]),(278,PySem.W.tabObj #[]),(283,PySem.W.tabObj #[]),(197,PySem.W.tabObj #[])]
noncomputable def as:List Addr:=[2,3,4,23,24,36,37,48,49,60,61,69,70,76,77,83,84,90,91,97,98,104,105,111,112,118,119,125,126,132,133,139,140,146,147,151,152,156,157,161,162,168,169,173,174,180,181,187,188,194,195,201,202,208,209,215,216,222,223,229,230,234,235,239,240,246,247,253,254,260,261,265,266,270,271,275,276,280,281,287,288,294,295,301,302,308,309,315,316,320,321,325,326,332,333,339,340,346,347,190,204,278,283,197]
noncomputable def Γ:Pg:=⟨[("WALL",(.str "#")),("LONGEST",(.int 12)),("STRAIGHT_COST",(.int 2)),("SLANTING_COST",(.int 3))],["len","abs","max","min","int","str","list","tuple","all","sum","isinstance","bool","range","enumerate","zip","sorted","dict","reversed"],[],[],["NoSize","NoSpot","NoWay"],[],false⟩
def R0:cN:=[]
theorem mE:bo (Γ.at R0 false) "_law_cell" cC (top 56):=stM fun _ _ _ _ _ _=>Hd.ar2 fun _ _=>rfl
noncomputable def R1:cN:=⟨"_law_cell","_law_cell",cC,top 56,false⟩::R0
theorem mY:bo (Γ.at R1 false) "_law_pick" cD (top 57):=stM fun _ _ _ _ _ _=>Hd.ar3 fun _ _ _=>rfl
noncomputable def R2:cN:=⟨"_law_pick","_law_pick",cD,top 57,false⟩::R1
theorem pP:bo (Γ.at R2 false) "is_whole" cT (top 10):=stM fun _ _ _ _ _ _=>Hd.ar1 fun _=>rfl
noncomputable def R3:cN:=⟨"is_whole","is_whole",cT,top 10,false⟩::R2
theorem rJ:bo (Γ.at R3 false) "is_spot" dz (top 11):=stM fun _ _ _ _ _ _=>Hd.ar1 fun _=>rfl
noncomputable def R4:cN:=⟨"is_spot","is_spot",dz,top 11,false⟩::R3
theorem kD:bo (Γ.at R4 false) "is_on_floor" bV (top 12):=stM fun _ _ _ _ _ _=>Hd.ar2 fun _ _=>rfl
noncomputable def R5:cN:=⟨"is_on_floor","is_on_floor",bV,top 12,false⟩::R4
theorem qI:bo (Γ.at R5 false) "is_open" cu (top 13):=stM fun _ _ _ _ _ _=>Hd.ar2 fun _ _=>rfl
noncomputable def R6:cN:=⟨"is_open","is_open",cu,top 13,false⟩::R5
theorem nj:bo (Γ.at R6 false) "need_open" bJ (top 14):=stM fun _ _ _ _ _ _=>Hd.ar2 fun _ _=>rfl
noncomputable def R7:cN:=⟨"need_open","need_open",bJ,top 14,false⟩::R6
theorem kS:bo (Γ.at R7 false) "are_beside" cq (top 18):=stM fun _ _ _ _ _ _=>Hd.ar2 fun _ _=>rfl
noncomputable def R8:cN:=⟨"are_beside","are_beside",cq,top 18,false⟩::R7
theorem nh:bo (Γ.at R8 false) "height_at" cE (top 16):=stM fun _ _ _ _ _ _=>Hd.ar2 fun _ _=>rfl
noncomputable def R9:cN:=⟨"height_at","height_at",cE,top 16,false⟩::R8
theorem fZ:bo (Γ.at R9 false) "has_open_corners" bf (top 19):=stM fun _ _ _ _ _ _=>Hd.ar3 fun _ _ _=>rfl
noncomputable def Kq:cN:=⟨"has_open_corners","has_open_corners",bf,top 19,false⟩::R9
theorem m9:bo (Γ.at Kq false) "step_cost" bI (top 20):=stM fun _ _ _ _ _ _=>Hd.ar4 fun _ _ _ _=>rfl
noncomputable def Lv:cN:=⟨"step_cost","step_cost",bI,top 20,false⟩::Kq
theorem fO:bo (Γ.at Lv false) "open_spots_beside" aY (top 17):=stM fun _ _ _ _ _ _=>Hd.ar2 fun _ _=>rfl
noncomputable def KH:cN:=⟨"open_spots_beside","open_spots_beside",aY,top 17,false⟩::Lv
theorem kW:bo (Γ.at KH false) "steps_from" bF (top 21):=stM fun _ _ _ _ _ _=>Hd.ar3 fun _ _ _=>rfl
noncomputable def Lc:cN:=⟨"steps_from","steps_from",bF,top 21,false⟩::KH
theorem pG:bo (Γ.at Lc false) "steps_to" gE (top 22):=stM fun _ _ _ _ _ _=>Hd.ar3 fun _ _ _=>rfl
noncomputable def KI:cN:=⟨"steps_to","steps_to",gE,top 22,false⟩::Lc
theorem fe:bo (Γ.at KI true) "spread" cj (top 30):=stM fun _ _ _ _ _ _=>Hd.ar2 fun _ _=>rfl
noncomputable def Km:cN:=⟨"spread@steps_to","spread",cj,top 30,true⟩::KI
theorem oh:bo (Γ.at Km true) "spread_to" fG (top 32):=stM fun _ _ _ _ _ _=>Hd.ar3 fun _ _ _=>rfl
noncomputable def LS:cN:=⟨"spread_to","spread_to",fG,top 32,true⟩::Km
theorem tM:bo (Γ.at LS false) "traced" eC (top 33):=stM fun _ _ _ _ _ _=>Hd.ar2 fun _ _=>rfl
noncomputable def Lz:cN:=⟨"traced","traced",eC,top 33,false⟩::LS
theorem mB:bo (Γ.at Lz false) "least_way" fM (top 34):=stM fun _ _ _ _ _ _=>Hd.ar4 fun _ _ _ _=>rfl
noncomputable def Lr:cN:=⟨"least_way","least_way",fM,top 34,false⟩::Lz
theorem ed:bo (Γ.at Lr false) "is_list_of_open_spots" bP (top 24):=stM fun _ _ _ _ _ _=>Hd.ar2 fun _ _=>rfl
noncomputable def LO:cN:=⟨"is_list_of_open_spots","is_list_of_open_spots",bP,top 24,false⟩::Lr
theorem jz:bo (Γ.at LO false) "costs_along" d9 (top 26):=stM fun _ _ _ _ _ _=>Hd.ar3 fun _ _ _=>rfl
noncomputable def K7:cN:=⟨"costs_along","costs_along",d9,top 26,false⟩::LO
theorem uo:bo (Γ.at K7 false) "is_way" jY (top 25):=stM fun _ _ _ _ _ _=>Hd.ar3 fun _ _ _=>rfl
noncomputable def LV:cN:=⟨"is_way","is_way",jY,top 25,false⟩::K7
theorem oV:bo (Γ.at LV false) "need_way" gv (top 27):=stM fun _ _ _ _ _ _=>Hd.ar3 fun _ _ _=>rfl
noncomputable def Ls:cN:=⟨"need_way","need_way",gv,top 27,false⟩::LV
theorem qU:bo (Γ.at Ls false) "cost_of" iM (top 28):=stM fun _ _ _ _ _ _=>Hd.ar3 fun _ _ _=>rfl
noncomputable def LD:cN:=⟨"cost_of","cost_of",iM,top 28,false⟩::Ls
theorem oT:bo (Γ.at LD false) "block_of" cB (top 42):=stM fun _ _ _ _ _ _=>Hd.ar2 fun _ _=>rfl
noncomputable def K3:cN:=⟨"block_of","block_of",cB,top 42,false⟩::LD
theorem i8:bo (Γ.at K3 false) "steps_within" bx (top 43):=stM fun _ _ _ _ _ _=>Hd.ar4 fun _ _ _ _=>rfl
noncomputable def KD:cN:=⟨"steps_within","steps_within",bx,top 43,false⟩::K3
theorem dP:bo (Γ.at KD true) "spread" aP (top 30):=stM fun _ _ _ _ _ _=>Hd.ar2 fun _ _=>rfl
noncomputable def Li:cN:=⟨"spread@steps_within","spread",aP,top 30,true⟩::KD
theorem mH:bo (Γ.at Li false) "steps_out" bH (top 44):=stM fun _ _ _ _ _ _=>Hd.ar4 fun _ _ _ _=>rfl
noncomputable def Kp:cN:=⟨"steps_out","steps_out",bH,top 44,false⟩::Li
theorem mL:bo (Γ.at Kp true) "hops_from" cg (top 46):=stM fun _ _ _ _ _ _=>Hd.ar5 fun _ _ _ _ _=>rfl
noncomputable def KR:cN:=⟨"hops_from","hops_from",cg,top 46,true⟩::Kp
theorem eL:bo (Γ.at KR true) "spread" ba (top 30):=stM fun _ _ _ _ _ _=>Hd.ar2 fun _ _=>rfl
noncomputable def K6:cN:=⟨"spread@hops_from","spread",ba,top 30,true⟩::KR
theorem nC:bo (Γ.at K6 false) "need_size" bZ (top 40):=stM fun _ _ _ _ _ _=>Hd.ar1 fun _=>rfl
noncomputable def K5:cN:=⟨"need_size","need_size",bZ,top 40,false⟩::K6
theorem lj:bo (Γ.at K5 false) "open_spots" cI (top 15):=stM fun _ _ _ _ _ _=>Hd.ar1 fun _=>rfl
noncomputable def LQ:cN:=⟨"open_spots","open_spots",cI,top 15,false⟩::K5
theorem x5:bo (Γ.at LQ false) "gates" fR (top 45):=stM fun _ _ _ _ _ _=>Hd.ar3 fun _ _ _=>rfl
noncomputable def Lm:cN:=⟨"gates","gates",fR,top 45,false⟩::LQ
theorem pV:bo (Γ.at Lm true) "by_gates" cY (top 47):=stM fun _ _ _ _ _ _=>Hd.ar5 fun _ _ _ _ _=>rfl
noncomputable def Kz:cN:=⟨"by_gates","by_gates",cY,top 47,true⟩::Lm
theorem oD:bo (Γ.at Kz false) "is_entry" gK (top 35):=stM fun _ _ _ _ _ _=>Hd.ar2 fun _ _=>rfl
noncomputable def Lj:cN:=⟨"is_entry","is_entry",gK,top 35,false⟩::Kz
theorem fb:bo (Γ.at Lj false) "has_rising_entries" bY (top 36):=stM fun _ _ _ _ _ _=>Hd.ar2 fun _ _=>rfl
noncomputable def LR:cN:=⟨"has_rising_entries","has_rising_entries",bY,top 36,false⟩::Lj
theorem gM:bo (Γ.at LR false) "keeps_steps_to" cU (top 38):=stM fun _ _ _ _ _ _=>Hd.ar4 fun _ _ _ _=>rfl
noncomputable def KU:cN:=⟨"keeps_steps_to","keeps_steps_to",cU,top 38,false⟩::LR
theorem o8:bo (Γ.at KU false) "is_paper" gH (top 37):=stM fun _ _ _ _ _ _=>Hd.ar4 fun _ _ _ _=>rfl
noncomputable def Lx:cN:=⟨"is_paper","is_paper",gH,top 37,false⟩::KU
theorem k9:bo (Γ.at Lx false) "steps_over" eP (top 23):=stM fun _ _ _ _ _ _=>Hd.ar2 fun _ _=>rfl
noncomputable def Kv:cN:=⟨"steps_over","steps_over",eP,top 23,false⟩::Lx
theorem eo:bo (Γ.at Kv true) "spread" bT (top 30):=stM fun _ _ _ _ _ _=>Hd.ar2 fun _ _=>rfl
noncomputable def LY:cN:=⟨"spread@steps_from","spread",bT,top 30,true⟩::Kv
theorem js:bo (Γ.at LY true) "spread_from" d8 (top 31):=stM fun _ _ _ _ _ _=>Hd.ar3 fun _ _ _=>rfl
noncomputable def LX:cN:=⟨"spread_from","spread_from",d8,top 31,true⟩::LY
theorem nK:bo (Γ.at LX false) "room_with" fE (top 49):=stM fun _ _ _ _ _ _=>Hd.ar3 fun _ _ _=>rfl
noncomputable def LZ:cN:=⟨"room_with","room_with",fE,top 49,false⟩::LX
theorem wR:bo (Γ.at LZ false) "rooms" mS (top 50):=stM fun _ _ _ _ _ _=>Hd.ar2 fun _ _=>rfl
noncomputable def Lh:cN:=⟨"rooms","rooms",mS,top 50,false⟩::LZ
theorem k8:bo (Γ.at Lh false) "needs_open" eQ (top 51):=stM fun _ _ _ _ _ _=>Hd.ar3 fun _ _ _=>rfl
noncomputable def Lb:cN:=⟨"needs_open","needs_open",eQ,top 51,false⟩::Lh
theorem jc:bo (Γ.at Lb false) "reached_past" dG (top 52):=stM fun _ _ _ _ _ _=>Hd.ar3 fun _ _ _=>rfl
noncomputable def L0:cN:=⟨"reached_past","reached_past",dG,top 52,false⟩::Lb
theorem n5:bo (Γ.at L0 false) "is_narrow" fy (top 53):=stM fun _ _ _ _ _ _=>Hd.ar3 fun _ _ _=>rfl
noncomputable def K9:cN:=⟨"is_narrow","is_narrow",fy,top 53,false⟩::L0
theorem jd:bo (Γ.at K9 false) "narrow_spots" dE (top 54):=stM fun _ _ _ _ _ _=>Hd.ar2 fun _ _=>rfl
noncomputable def R46:cN:=⟨"narrow_spots","narrow_spots",dE,top 54,false⟩::K9
theorem st_law:bo (Γ.at R46 false) "law" d_law (top 58):=stM fun _ _ _ _ _ _=>Hd.ar1 fun _=>rfl
theorem eA(P:Params):CodeK (K P) 194 190:=⟨⟨.type "code",none,.fields #[.str "spread" 429,.str "spread" 430,.str "/claim/cut.py" 431,.int 88 0,.int 2 0,.int 0 0,.int 0 0,.int 3 0,.ref 189,.bool Bool.true,.int 181 0,.ref 190,.none,.ref 191,.ref 192,.ref 193,.int 441 0,.int 88 0,.str "/claim/cut.py" 442],#[]⟩,_,_,_,_,_,_,_,_,by kernel_rfl,rfl,rfl,rfl,rfl,rfl,rfl,rfl,rfl,by decide⟩
theorem iq(P:Params):CodeK (K P) 208 204:=⟨⟨.type "code",none,.fields #[.str "spread_to" 455,.str "spread_to" 456,.str "/claim/cut.py" 457,.int 104 0,.int 3 0,.int 0 0,.int 0 0,.int 3 0,.ref 203,.bool Bool.true,.int 181 0,.ref 204,.none,.ref 205,.ref 206,.ref 207,.int 464 0,.int 104 0,.str "/claim/cut.py" 465],#[]⟩,_,_,_,_,_,_,_,_,by kernel_rfl,rfl,rfl,rfl,rfl,rfl,rfl,rfl,rfl,by decide⟩
theorem gY(P:Params):CodeK (K P) 280 278:=⟨⟨.type "code",none,.fields #[.str "hops_from" 556,.str "hops_from" 557,.str "/claim/cut.py" 558,.int 155 0,.int 5 0,.int 0 0,.int 0 0,.int 3 0,.ref 277,.bool Bool.true,.int 181 0,.ref 278,.none,.none,.none,.ref 279,.int 559 0,.int 155 0,.str "/claim/cut.py" 560],#[]⟩,_,_,_,_,_,_,_,_,by kernel_rfl,rfl,rfl,rfl,rfl,rfl,rfl,rfl,rfl,by decide⟩
theorem i5(P:Params):CodeK (K P) 287 283:=⟨⟨.type "code",none,.fields #[.str "by_gates" 562,.str "by_gates" 563,.str "/claim/cut.py" 564,.int 159 0,.int 5 0,.int 0 0,.int 0 0,.int 3 0,.ref 282,.bool Bool.true,.int 181 0,.ref 283,.none,.ref 284,.ref 285,.ref 286,.int 575 0,.int 159 0,.str "/claim/cut.py" 576],#[]⟩,_,_,_,_,_,_,_,_,by kernel_rfl,rfl,rfl,rfl,rfl,rfl,rfl,rfl,rfl,by decide⟩
theorem fm(P:Params):CodeK (K P) 201 197:=⟨⟨.type "code",none,.fields #[.str "spread_from" 444,.str "spread_from" 445,.str "/claim/cut.py" 446,.int 101 0,.int 3 0,.int 0 0,.int 0 0,.int 3 0,.ref 196,.bool Bool.true,.int 181 0,.ref 197,.none,.ref 198,.ref 199,.ref 200,.int 452 0,.int 101 0,.str "/claim/cut.py" 453],#[]⟩,_,_,_,_,_,_,_,_,by kernel_rfl,rfl,rfl,rfl,rfl,rfl,rfl,rfl,rfl,by decide⟩
theorem hlawT(ns:List Int)(hl:ns.length≤63):ak (den (tab R46)) d_law [.lst (ns.map .int)]=.ok (.bl true):=FL ns hl
theorem allK(P:Params):AllK (K P) ts Γ R46:=
 ⟨Hd.ent 326 325 (.str "cellways.rooms" 578),jd,⟨by decide+kernel,by decide+kernel,fun z=>by first|rfl|exact absurd z (by decide)⟩,⟨Hd.ent 321 320 (.str "cellways.rooms" 578),n5,⟨by decide+kernel,by decide+kernel,fun z=>by first|rfl|exact absurd z (by decide)⟩,⟨Hd.ent 316 315 (.str "cellways.rooms" 578),jc,⟨by decide+kernel,by decide+kernel,fun z=>by first|rfl|exact absurd z (by decide)⟩,⟨Hd.ent 309 308 (.str "cellways.rooms" 578),k8,⟨by decide+kernel,by decide+kernel,fun z=>by first|rfl|exact absurd z (by decide)⟩,⟨Hd.ent 302 301 (.str "cellways.rooms" 578),wR,⟨by decide+kernel,by decide+kernel,fun z=>by first|rfl|exact absurd z (by decide)⟩,⟨Hd.ent 295 294 (.str "cellways.rooms" 578),nK,⟨by decide+kernel,by decide+kernel,fun z=>by first|rfl|exact absurd z (by decide)⟩,⟨Hd.entL 202 201 197 (.str "cellways.ways" 427) (fm P) (by decide+kernel) (by decide+kernel),js,⟨by decide+kernel,by decide+kernel,fun z=>by first|rfl|exact absurd z (by decide)⟩,⟨Hd.entL 195 194 190 (.str "cellways.ways" 427) (eA P) (by decide+kernel) (by decide+kernel),eo,⟨by decide+kernel,by decide+kernel,fun z=>by first|rfl|exact absurd z (by decide)⟩,⟨Hd.ent 157 156 (.str "cellways.floors" 255),k9,⟨by decide+kernel,by decide+kernel,fun z=>by first|rfl|exact absurd z (by decide)⟩,⟨Hd.ent 240 239 (.str "cellways.ways" 427),o8,⟨by decide+kernel,by decide+kernel,fun z=>by first|rfl|exact absurd z (by decide)⟩,⟨Hd.ent 247 246 (.str "cellways.ways" 427),gM,⟨by decide+kernel,by decide+kernel,fun z=>by first|rfl|exact absurd z (by decide)⟩,⟨Hd.ent 235 234 (.str "cellways.ways" 427),fb,⟨by decide+kernel,by decide+kernel,fun z=>by first|rfl|exact absurd z (by decide)⟩,⟨Hd.ent 230 229 (.str "cellways.ways" 427),oD,⟨by decide+kernel,by decide+kernel,fun z=>by first|rfl|exact absurd z (by decide)⟩,⟨Hd.entL 288 287 283 (.str "cellways.blocks" 528) (i5 P) (by decide+kernel) (by decide+kernel),pV,⟨by decide+kernel,by decide+kernel,fun z=>by first|rfl|exact absurd z (by decide)⟩,⟨Hd.ent 276 275 (.str "cellways.blocks" 528),x5,⟨by decide+kernel,by decide+kernel,fun z=>by first|rfl|exact absurd z (by decide)⟩,⟨Hd.ent 105 104 (.str "cellways.floors" 255),lj,⟨by decide+kernel,by decide+kernel,fun z=>by first|rfl|exact absurd z (by decide)⟩,⟨Hd.ent 254 253 (.str "cellways.sizes" 519),nC,⟨by decide+kernel,by decide+kernel,fun z=>by first|rfl|exact absurd z (by decide)⟩,⟨Hd.entL 195 194 190 (.str "cellways.ways" 427) (eA P) (by decide+kernel) (by decide+kernel),eL,⟨by decide+kernel,by decide+kernel,fun z=>by first|rfl|exact absurd z (by decide)⟩,⟨Hd.entL 281 280 278 (.str "cellways.blocks" 528) (gY P) (by decide+kernel) (by decide+kernel),mL,⟨by decide+kernel,by decide+kernel,fun z=>by first|rfl|exact absurd z (by decide)⟩,⟨Hd.ent 271 270 (.str "cellways.blocks" 528),mH,⟨by decide+kernel,by decide+kernel,fun z=>by first|rfl|exact absurd z (by decide)⟩,⟨Hd.entL 195 194 190 (.str "cellways.ways" 427) (eA P) (by decide+kernel) (by decide+kernel),dP,⟨by decide+kernel,by decide+kernel,fun z=>by first|rfl|exact absurd z (by decide)⟩,⟨Hd.ent 266 265 (.str "cellways.blocks" 528),i8,⟨by decide+kernel,by decide+kernel,fun z=>by first|rfl|exact absurd z (by decide)⟩,⟨Hd.ent 261 260 (.str "cellways.blocks" 528),oT,⟨by decide+kernel,by decide+kernel,fun z=>by first|rfl|exact absurd z (by decide)⟩,⟨Hd.ent 188 187 (.str "cellways.floors" 255),qU,⟨by decide+kernel,by decide+kernel,fun z=>by first|rfl|exact absurd z (by decide)⟩,⟨Hd.ent 181 180 (.str "cellways.floors" 255),oV,⟨by decide+kernel,by decide+kernel,fun z=>by first|rfl|exact absurd z (by decide)⟩,⟨Hd.ent 169 168 (.str "cellways.floors" 255),uo,⟨by decide+kernel,by decide+kernel,fun z=>by first|rfl|exact absurd z (by decide)⟩,⟨Hd.ent 174 173 (.str "cellways.floors" 255),jz,⟨by decide+kernel,by decide+kernel,fun z=>by first|rfl|exact absurd z (by decide)⟩,⟨Hd.ent 162 161 (.str "cellways.floors" 255),ed,⟨by decide+kernel,by decide+kernel,fun z=>by first|rfl|exact absurd z (by decide)⟩,⟨Hd.ent 223 222 (.str "cellways.ways" 427),mB,⟨by decide+kernel,by decide+kernel,fun z=>by first|rfl|exact absurd z (by decide)⟩,⟨Hd.ent 216 215 (.str "cellways.ways" 427),tM,⟨by decide+kernel,by decide+kernel,fun z=>by first|rfl|exact absurd z (by decide)⟩,⟨Hd.entL 209 208 204 (.str "cellways.ways" 427) (iq P) (by decide+kernel) (by decide+kernel),oh,⟨by decide+kernel,by decide+kernel,fun z=>by first|rfl|exact absurd z (by decide)⟩,⟨Hd.entL 195 194 190 (.str "cellways.ways" 427) (eA P) (by decide+kernel) (by decide+kernel),fe,⟨by decide+kernel,by decide+kernel,fun z=>by first|rfl|exact absurd z (by decide)⟩,⟨Hd.ent 152 151 (.str "cellways.floors" 255),pG,⟨by decide+kernel,by decide+kernel,fun z=>by first|rfl|exact absurd z (by decide)⟩,⟨Hd.ent 147 146 (.str "cellways.floors" 255),kW,⟨by decide+kernel,by decide+kernel,fun z=>by first|rfl|exact absurd z (by decide)⟩,⟨Hd.ent 119 118 (.str "cellways.floors" 255),fO,⟨by decide+kernel,by decide+kernel,fun z=>by first|rfl|exact absurd z (by decide)⟩,⟨Hd.ent 140 139 (.str "cellways.floors" 255),m9,⟨by decide+kernel,by decide+kernel,fun z=>by first|rfl|exact absurd z (by decide)⟩,⟨Hd.ent 133 132 (.str "cellways.floors" 255),fZ,⟨by decide+kernel,by decide+kernel,fun z=>by first|rfl|exact absurd z (by decide)⟩,⟨Hd.ent 112 111 (.str "cellways.floors" 255),nh,⟨by decide+kernel,by decide+kernel,fun z=>by first|rfl|exact absurd z (by decide)⟩,⟨Hd.ent 126 125 (.str "cellways.floors" 255),kS,⟨by decide+kernel,by decide+kernel,fun z=>by first|rfl|exact absurd z (by decide)⟩,⟨Hd.ent 98 97 (.str "cellways.floors" 255),nj,⟨by decide+kernel,by decide+kernel,fun z=>by first|rfl|exact absurd z (by decide)⟩,⟨Hd.ent 91 90 (.str "cellways.floors" 255),qI,⟨by decide+kernel,by decide+kernel,fun z=>by first|rfl|exact absurd z (by decide)⟩,⟨Hd.ent 84 83 (.str "cellways.floors" 255),kD,⟨by decide+kernel,by decide+kernel,fun z=>by first|rfl|exact absurd z (by decide)⟩,⟨Hd.ent 77 76 (.str "cellways.floors" 255),rJ,⟨by decide+kernel,by decide+kernel,fun z=>by first|rfl|exact absurd z (by decide)⟩,⟨Hd.ent 70 69 (.str "cellways.floors" 255),pP,⟨by decide+kernel,by decide+kernel,fun z=>by first|rfl|exact absurd z (by decide)⟩,⟨Hd.ent 340 339 (.str "law_cellways_k98_whole_edges_by_hand" 636),mY,⟨by decide+kernel,by decide+kernel,fun z=>by first|rfl|exact absurd z (by decide)⟩,⟨Hd.ent 333 332 (.str "law_cellways_k98_whole_edges_by_hand" 636),mE,⟨by decide+kernel,by decide+kernel,fun z=>by first|rfl|exact absurd z (by decide)⟩,trivial⟩⟩⟩⟩⟩⟩⟩⟩⟩⟩⟩⟩⟩⟩⟩⟩⟩⟩⟩⟩⟩⟩⟩⟩⟩⟩⟩⟩⟩⟩⟩⟩⟩⟩⟩⟩⟩⟩⟩⟩⟩⟩⟩⟩⟩⟩
structure yV(K:PySem.W.Frag)(d:Str)(D:Addr):Prop where
 e:PySem.W.nsIn K mainGlobals d=some (some (.ref D))
 xc:BS K D
 vt:PySem.W.kitOne K (.ref D) (.type "ValueError")=some true
 ex:PySem.W.excIn K D vT "ValueError.__new__"=true
theorem CI{K:PySem.W.Frag}{d:Str}{D:Addr}(e:PySem.W.nsIn K mainGlobals d=some (some (.ref D)):=by kernel_rfl)(i:PySem.W.isClsIn K D=true:=by kernel_rfl)(v:PySem.W.subIn K (.ref D) (.type "ValueError")=some true:=by kernel_rfl)(ga:PySem.W.findIn K (.ref D) "__getattribute__"=some (some (.builtin "BaseException.__getattribute__")):=by kernel_rfl)(hk:PySem.W.findIn K (.ref D) "__getattr__"=some none:=by kernel_rfl)
 (cl:PySem.W.findIn K (.ref D) "__class__"=some (some (.builtin "object.__class__")):=by kernel_rfl) (mo:PySem.W.mroIn K D (.type "object")=some true:=by kernel_rfl) (mb:PySem.W.mroIn K D (.type "BaseException")=some true:=by kernel_rfl) (ex:PySem.W.excIn K D vT "ValueError.__new__"=true:=by kernel_rfl):yV K d D:=
 ⟨e,⟨ga,hk,cl,mo,mb,i⟩,wc (by decide+kernel) v,ex⟩
theorem modK(P:Params){mg:Str→Option Value}{h:Heap}(X:(K P).In h)(G:h.Ns mainGlobals mg):qP (K P) mg Γ ⟨K P,mg,["NoSize","NoSpot","NoWay"],ts⟩:=by
 have vX:∀{x:Str} {u:Value},PySem.W.nsIn (K P) mainGlobals x=some (some u)→mg x=some u:=fun a=>PySem.W.mg_of X G a
 have ox:∀{x:Str},PySem.W.nsIn (K P) mainGlobals x=some none→mg x=none:=fun a=>PySem.W.mg_none_of X G a
 have fB:yV (K P) "NoSize" 61:=CI
 have fQ:yV (K P) "NoSpot" 37:=CI
 have gQ:yV (K P) "NoWay" 49:=CI
 refine⟨rfl,rfl,fun q hq=>?_,fun g hg=>?_,by decide+kernel,fun c hc=>?_,fun d hd D hD=>?_,fun c hc=>?_,fun c hc=>?_,fun z=>absurd z (by decide+kernel),fun _=>⟨4,⟨.type "module",some builtinsNs,.plain,#[]⟩,vX (by kernel_rfl),by decide,by decide,by kernel_rfl,rfl,rfl,rfl⟩⟩
 ·simp only [Γ,List.mem_cons,List.not_mem_nil,or_false] at hq;rcases hq with rfl|rfl|rfl|rfl
  ·exact⟨.str "#" 257,.str "#",vX (by kernel_rfl),⟨_,rfl⟩,fun G=>.s⟩
  ·exact⟨.int 12 259,.int 12,vX (by kernel_rfl),⟨_,rfl⟩,fun G=>.i⟩
  ·exact⟨.int 2 261,.int 2,vX (by kernel_rfl),⟨_,rfl⟩,fun G=>.i⟩
  ·exact⟨.int 3 263,.int 3,vX (by kernel_rfl),⟨_,rfl⟩,fun G=>.i⟩
 ·simp only [Γ,List.mem_cons,List.not_mem_nil,or_false] at hg;rcases hg with rfl|rfl|rfl|rfl|rfl|rfl|rfl|rfl|rfl|rfl|rfl|rfl|rfl|rfl|rfl|rfl|rfl|rfl
  ·exact ox (by kernel_rfl)
  ·exact ox (by kernel_rfl)
  ·exact ox (by kernel_rfl)
  ·exact ox (by kernel_rfl)
  ·exact ox (by kernel_rfl)
  ·exact ox (by kernel_rfl)
  ·exact ox (by kernel_rfl)
  ·exact ox (by kernel_rfl)
  ·exact ox (by kernel_rfl)
  ·exact ox (by kernel_rfl)
  ·exact ox (by kernel_rfl)
  ·exact ox (by kernel_rfl)
  ·exact ox (by kernel_rfl)
  ·exact ox (by kernel_rfl)
  ·exact ox (by kernel_rfl)
  ·exact ox (by kernel_rfl)
  ·exact ox (by kernel_rfl)
  ·exact ox (by kernel_rfl)
 ·simp only [Γ,List.mem_cons,List.not_mem_nil,or_false] at hc
 ·simp only [List.mem_cons,List.not_mem_nil,or_false] at hd;rcases hd with rfl|rfl|rfl
  ·cases(vX fB.e).symm.trans hD;refine⟨fB.xc,fun c hc C hC=>?_,fB.vt⟩
   simp only [Γ,List.mem_cons,List.not_mem_nil,or_false] at hc
  ·cases(vX fQ.e).symm.trans hD;refine⟨fQ.xc,fun c hc C hC=>?_,fQ.vt⟩
   simp only [Γ,List.mem_cons,List.not_mem_nil,or_false] at hc
  ·cases(vX gQ.e).symm.trans hD;refine⟨gQ.xc,fun c hc C hC=>?_,gQ.vt⟩
   simp only [Γ,List.mem_cons,List.not_mem_nil,or_false] at hc
 ·simp only [Γ,List.contains_iff_mem,List.mem_cons,List.not_mem_nil,or_false] at hc⊢;exact hc
 ·simp only [Γ,List.contains_iff_mem,List.mem_cons,List.not_mem_nil,or_false] at hc;rcases hc with rfl|rfl|rfl
  ·exact⟨_,vX fB.e,fB.ex⟩
  ·exact⟨_,vX fQ.e,fQ.ex⟩
  ·exact⟨_,vX gQ.e,gQ.ex⟩
theorem hY{P:Params}{h:Heap}(X:(K2 P).In h):(K P).In h∧∀p∈ts.map (·.1),h.get? p=some (PySem.W.tabObj #[]):=⟨fun b o e=>X b o (Hd.look_app e),fun p hp=>by
 simp only [ts,List.map_cons,List.map_nil,List.mem_cons,List.not_mem_nil,or_false] at hp;rcases hp with rfl|rfl|rfl|rfl|rfl
 ·exact X _ _ (by kernel_rfl)
 ·exact X _ _ (by kernel_rfl)
 ·exact X _ _ (by kernel_rfl)
 ·exact X _ _ (by kernel_rfl)
 ·exact X _ _ (by kernel_rfl)
⟩
theorem hC(P:Params):∀p∈ts.map (·.1),(∃c,CodeK (K P) c p)∧(K P).lookup p=none:=fun p hp=>by
 simp only [ts,List.map_cons,List.map_nil,List.mem_cons,List.not_mem_nil,or_false] at hp;rcases hp with rfl|rfl|rfl|rfl|rfl
 ·exact⟨⟨_,eA P⟩,by kernel_rfl⟩
 ·exact⟨⟨_,iq P⟩,by kernel_rfl⟩
 ·exact⟨⟨_,gY P⟩,by kernel_rfl⟩
 ·exact⟨⟨_,i5 P⟩,by kernel_rfl⟩
 ·exact⟨⟨_,fm P⟩,by kernel_rfl⟩
noncomputable def keep:List Nat:=[1,2,3,4,6,7,8,9,10,11,12,13,14,15,16,17,18,19,20,21,22,23,24,25,26,27,28,30,31,32,33,34,35,36,37,38,40,42,43,44,45,46,47,49,50,51,52,53,54,56,57,58]
theorem ka:∀P,as=(K2 P).map (·.1):=fun _=>by kernel_rfl
theorem left:PySem.W.LeftO lw.row.prog (PySem.W.view lw.row.prog keep) [] (fun s=>PySem.W.xlAt (PySem.W.view lw.row.prog keep) [] s&&PySem.W.recOk lw.row.toRowW.records s) (PySem.W.kHook K2 as ka).obs (PySem.W.kHook K2 as ka).val 4668:=by
 refine Hd.left_of (T₀:=fun P=>Hd.treeOf (PySem.W.boot_heap P).objs.toList) (m₀:=11) (life:={}) (ann:=some (.ref 6)) (M:=4618) (by kernel_rfl) (by kernel_rfl) (fun s=>by kernel_rfl) Hd.boot0 Hd.boot1 (by kernel_rfl) fun w os=>?_
 rw [PySem.W.Fast.te10156331382660048174,PySem.W.Fast.te11892475500146522536,PySem.W.Fast.te14364793385576792824,PySem.W.Fast.te6613529449190102663,PySem.W.Fast.te4187177175401517315,PySem.W.Fast.te5923862056798008813]
 kernel_rfl
end K98
open PySem PySem.W PyProof.Rows
set_option maxRecDepth 100000 in
set_option maxHeartbeats 0 in
theorem PySem.Challenge.cw_cellways_k98_whole_edges_by_hand_holds : PySem.Challenge.rw_cellways_k98_whole_edges_by_hand.Holds := by
 refine Hd.holds (d:=⟨"law",L2.defArgs (K98.top 58),L2.defBody (K98.top 58),L2.defScope (K98.top 58),Hd.dpos (K98.top 58)⟩) (by kernel_rfl) K98.ka K98.left (by kernel_rfl) (by kernel_rfl) (by kernel_rfl) (by kernel_rfl) ⟨rfl,rfl,rfl,rfl,rfl,by decide+kernel⟩ ?hw ?hc
 case hw=>w_witness2
 case hc=>exact Ci.walk (l:=PySem.Challenge.rw_cellways_k98_whole_edges_by_hand) K98.R46 K98.Γ "_law_script" K98.d_law ["NoSize","NoSpot","NoWay"] K98.ts (K98.top 58) rfl rfl rfl rfl rfl ⟨rfl,by decide,by decide⟩ (fun w h Y=>K98.hY (PySem.W.kIn_of Y)) (fun w=>K98.hC w.params) (fun w mg h KX G=>K98.modK _ KX G) (fun w=>Hd.ent 347 346 (.str "law_cellways_k98_whole_edges_by_hand" 636)) K98.st_law (fun w=>K98.allK _) K98.hlawT
#print axioms PySem.Challenge.cw_cellways_k98_whole_edges_by_hand_holds
