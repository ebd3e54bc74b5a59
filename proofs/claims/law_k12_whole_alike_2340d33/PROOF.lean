import PyProof.Rows.All
import Wide.All
import OpenK.AllK
import Wide.FinOn
import Lean
import PyProof.EqAt
import PyProof.EqKinds
import PyProof.TupleCall
import PySem.Challenge.RW_cellways_k12_whole_alike
set_option Elab.async false
set_option linter.all false
set_option genSizeOf false
set_option maxRecDepth 100000
theorem zzf:¬false=true:=Bool.false_ne_true
theorem zza(a b:Bool):((a&&b)=true)=(a=true∧b=true):=Bool.and_eq_true a b
theorem zzg.{u}{α:Type u}{l:List α}{i:Nat}(h:i<l.length):l[i]?=some l[i]:=List.getElem?_eq_getElem h
theorem zzl.{u,v}{α:Type u}{β:Type v}{l:List α}(f:α→β):(l.map f).length=l.length:=List.length_map f
namespace L2
open PySem PySem.Spec PyProof.Rows
abbrev Key:=Sum Int Str
def lW:Key→Value→Bool
 |.inl k,v=>Value.isInt k v
 |.inr x,v=>Value.isStrOf x v
def K6(w:World):Key→Int
 |.inl k=>hashInt k
 |.inr x=>hashStr w x
theorem bS:∀{k:Key} {v:Value},lW k v=true→(∃i t,k=Sum.inl i∧v=Value.int i t)∨(∃x t,k=Sum.inr x∧v=Value.str x t)
 |.inl i,v,h=>by
  obtain⟨t,e⟩:=Value.isInt_shape (k:=i) (v:=v) h
  exact .inl ⟨i,t,rfl,e⟩
 |.inr x,v,h=>by
  obtain⟨t,e⟩:=Value.isStrOf_shape (x:=x) (v:=v) h
  exact .inr ⟨x,t,rfl,e⟩
theorem vE(i:Int)(t:Tok):lW (.inl i) (.int i t)=true:=by simp [lW,Value.isInt]
theorem vN(x:Str)(t:Tok):lW (.inr x) (.str x t)=true:=by simp [lW,Value.isStrOf]
theorem D7(a b:Int):decide ((Sum.inl a:Key)=Sum.inl b)=(a==b):=by
 by_cases e:a=b
 ·subst e;simp
 ·have h:¬(Sum.inl a:Key)=Sum.inl b:=fun q=>e (Sum.inl.inj q)
  rw [decide_eq_false h];exact(beq_eq_false_iff_ne.mpr e).symm
theorem Fe(a b:Str):decide ((Sum.inr a:Key)=Sum.inr b)=decide (a=b):=by
 by_cases e:a=b
 ·subst e;simp
 ·have h:¬(Sum.inr a:Key)=Sum.inr b:=fun q=>e (Sum.inr.inj q)
  rw [decide_eq_false h,decide_eq_false e]
theorem D3(a:Int)(b:Str):decide ((Sum.inl a:Key)=Sum.inr b)=false:=decide_eq_false (fun q=>nomatch q)
theorem DW(a:Str)(b:Int):decide ((Sum.inr a:Key)=Sum.inl b)=false:=decide_eq_false (fun q=>nomatch q)
noncomputable def bP(prog:Program)(w:World):PySem.KeyKind prog w Key where
 is:=lW
 hash:=K6 w
 inj:=fun v a b ha hb=>by
  rcases bS ha with⟨i,t,rfl,rfl⟩|⟨x,t,rfl,rfl⟩
  ·rcases bS hb with⟨j,u,rfl,e⟩|⟨y,u,rfl,e⟩
   ·injection e with e1 _;rw [e1]
   ·exact nomatch e
  ·rcases bS hb with⟨j,u,rfl,e⟩|⟨y,u,rfl,e⟩
   ·exact nomatch e
   ·injection e with e1 _;rw [e1]
 byValue:=fun k v h=>by
  rcases bS h with⟨i,t,rfl,rfl⟩|⟨x,t,rfl,rfl⟩<;>rfl
 pyHash:=fun hv h=>by
  rcases bS hv with⟨i,t,rfl,rfl⟩|⟨x,t,rfl,rfl⟩
  ·exact wpAny_pyHash_int h
  ·exact wpAny_pyHash_str h
 eqBool:=fun hu hv h=>by
  rcases bS hu with⟨i,t,rfl,rfl⟩|⟨x,t,rfl,rfl⟩
  ·rcases bS hv with⟨j,u,rfl,rfl⟩|⟨y,u,rfl,rfl⟩
   ·rw [D7] at h;exact wpAny_eqBool_int h
   ·rw [D3] at h;exact SeqAt.EqAt.int_str i t y u _ _ _ _ h
  ·rcases bS hv with⟨j,u,rfl,rfl⟩|⟨y,u,rfl,rfl⟩
   ·rw [DW] at h;exact SeqAt.EqAt.str_int x t j u _ _ _ _ h
   ·rw [Fe] at h;exact wpAny_eqBool_str h
 «strs»:=fun k x t v h=>by
  rcases bS h with⟨i,u,rfl,e⟩|⟨y,u,rfl,e⟩
  ·exact nomatch e
  ·injection e with e1 _
   subst e1;cases v<;>rfl
theorem ql(prog:Program)(w:World)(i:Int)(t:Tok):(bP prog w).is (.inl i) (.int i t)=true:=vE i t
theorem pA(prog:Program)(w:World)(x:Str)(t:Tok):(bP prog w).is (.inr x) (.str x t)=true:=vN x t
end L2
namespace L2
open PySem PySem.Spec PyProof.Rows
inductive V where
 |non|bl (b:Bool)|int (i:Int)|str (x:Str)|byt (b:Array UInt8)|flt (b:UInt64)|ref (a:Addr)|ty (n:String)
 deriving DecidableEq
def RelV:V→Value→Prop
 |.non,u=>u=Value.none
 |.bl b,u=>u=Value.bool b
 |.int i,u=>∃t,u=Value.int i t
 |.str x,u=>∃t,u=Value.str x t
 |.byt b,u=>∃t,u=Value.bytes b t
 |.flt b,u=>∃t,u=Value.float b t
 |.ref a,u=>u=Value.ref a
 |.ty n,u=>u=Value.type n
abbrev Vals:List V→List Value→Prop:=Paired RelV
theorem Vals.length{xs:List V}{us:List Value}(r:Vals xs us):xs.length=us.length:=Paired.length r
theorem Vals.get:∀{xs:List V} {us:List Value} {i:Nat} {x:V},Vals xs us→xs[i]?=some x→∃u,us[i]?=some u∧RelV x u
 |_,_,_,_,.nil,e=>by simp at e
 |_,_,0,_,.cons r _,e=>by simp at e;subst e;exact⟨_,rfl,r⟩
 |_,_,i+1,x,.cons _ t,e=>by
  obtain⟨u,h1,h2⟩:=Vals.get (i:=i) (x:=x) t (by simpa using e)
  exact⟨u,by simpa using h1,h2⟩
theorem Vals.append:∀{xs ys:List V} {us ws:List Value},Vals xs us→Vals ys ws→Vals (xs++ys) (us++ws)
 |_,_,_,_,.nil,s=>s
 |_,_,_,_,.cons r t,s=>.cons r (Vals.append t s)
theorem Vals.take:∀{xs:List V} {us:List Value} (n:Nat),Vals xs us→Vals (xs.take n) (us.take n)
 |_,_,0,_=>.nil
 |_,_,_+1,.nil=>.nil
 |_,_,n+1,.cons r t=>.cons r (Vals.take n t)
theorem Vals.drop:∀{xs:List V} {us:List Value} (n:Nat),Vals xs us→Vals (xs.drop n) (us.drop n)
 |_,_,0,r=>r
 |_,_,_+1,.nil=>.nil
 |_,_,n+1,.cons _ t=>Vals.drop n t
def i4:Option V→Option Value→Prop
 |some v,some u=>RelV v u
 |none,none=>True
 |_,_=>False
def KV{κ:Type}:List (κ×V)→List (κ×Value)→Prop:=Paired fun(p:κ×V) (q:κ×Value)=>p.1=q.1∧RelV p.2 q.2
def kV:Key→V
 |.inl i=>.int i
 |.inr x=>.str x
inductive HO where
 |lst (xs:List V)
 |tup (xs:List V)
 |dK (aB:List (Key×V))|dT (aB:List (List Key×V))
 |set (S:Int→Bool) (n:Nat)
 |ins (C dx:Addr) (fs:List (Str×V))
 |own (x:Addr)
 |xd (fs:List (Str×V))
 |met (f x:Addr)
 |rng (lo hi:Int)
 |frz (o:Obj) (u:HO)
 |tbl (ps:Array Value)
 |ext (φ:Heap→Prop)
abbrev Hp:=Addr→Option HO
def upd(H:Hp)(a:Addr)(o:HO):Hp:=fun b=>if b=a then some o else H b
theorem av{H:Hp}{a:Addr}{o:HO}:upd H a o a=some o:=by unfold upd;rw [if_pos rfl]
theorem ag{H:Hp}{a b:Addr}{o:HO}(h:b≠a):upd H a o b=H b:=by unfold upd;rw [if_neg h]
theorem d8{H:Hp}{a b:Addr}{o u:HO}(h:H a=some o)(h':H b=some u)(d:o≠u):a≠b:=by
 intro e;subst e;rw [h] at h';exact d (Option.some.inj h')
theorem df{H:Hp}{a b:Addr}{o:HO}(h:H a=some o)(h':H b=none):a≠b:=by
 intro e;subst e;rw [h] at h';cases h'
section
variable(P:Program)(w:World)
def bV(H:Hp)(h:Heap)(a:Addr):HO→Prop
 |.lst xs=>xs.length≤sizeLine∧∃(aD:List Value) (n:Nat),Vals xs aD∧h.get? a=some {cls:=.type "list",data:=.seq aD.toArray n}
 |.tup xs=>xs.length≤sizeLine∧∃aD:List Value,Vals xs aD∧IsTup h a aD.toArray
 |.dK aB=>aB.length≤sizeLine∧(a==sysModules)=false∧∃vs,KV aB vs∧h.DictOf (bP P w) a vs
 |.dT aB=>aB.length≤sizeLine∧(a==sysModules)=false∧∃xs:List (List Key×Addr×Value),
  Paired (fun(p:List Key×V) (q:List Key×Addr×Value)=>p.1=q.1∧H q.2.1=some (.tup (p.1.map kV))∧RelV p.2 q.2.2) aB xs∧
  ∃o es ep,h.get? a=some o∧o.ExactDict∧o.data=.dict es ep∧es.toList=xs.map (entryOfKey (tupleKind (bP P w)))∧(xs.map (·.1)).Nodup
 |.set S n=>h.SetOf (intKind P w) a S n
 |.ins C dx fs=>H dx=some (.own a)∧fs.length≤1000∧dx≠a∧h.get? a=some (PySem.W.instObj C dx)∧
  ∃mA,h.Ns1 dx mA∧(∀f,i4 (fs.lookup f) (mA f))∧PySem.Within mA (fs.map (·.1))
 |.own _=>∃o,h.get? a=some o
 |.xd fs=>∃mA,h.Ns1 a mA∧∀f,i4 (fs.lookup f) (mA f)
 |.rng lo hi=>∃t u v,h.get? a=some {cls:=.type "range",data:=.fields #[.int lo t,.int hi u,.int 1 v]}
 |.frz o u=>h.get? a=some o∧bV H h a u
 |.tbl ps=>h.get? a=some {cls:=.none,data:=.fields ps}
 |.met f x=>h.get? a=some (PySem.W.methodObj (.ref f) (.ref x))
 |.ext φ=>φ h∧(∃o,h.get? a=some o)∧∀h1 h2:Heap,φ h1→(∀o,h1.get? a=some o→h2.get? a=some o)→φ h2
def dG(H:Hp)(h:Heap):Prop:=∀a o,H a=some o→bV P w H h a o
end
section
variable{P:Program}{w:World}{H H':Hp}{h h':Heap}{a:Addr}{o:HO}
theorem bV.lt(x:bV P w H h a o):a<h.objs.size:=by
 cases o with
 |lst xs=>obtain⟨_,_,_,_,e⟩:=x;exact Heap.lt_size e
 |tup xs=>obtain⟨_,_,_,p⟩:=x;exact p.lt
 |dK aB=>obtain⟨_,_,_,_,o,_,_,e,_⟩:=x;exact Heap.lt_size e
 |dT aB=>obtain⟨_,_,_,_,o,_,_,e,_⟩:=x;exact Heap.lt_size e
 |set S n=>obtain⟨o,_,_,_,e,_⟩:=x;exact Heap.lt_size e
 |ins C dx fs=>obtain⟨_,_,_,e,_⟩:=x;exact Heap.lt_size e
 |own y=>obtain⟨_,e⟩:=x;exact Heap.lt_size e
 |xd fs=>obtain⟨_,⟨_,_,_,e,_⟩,_⟩:=x;exact Heap.lt_size e
 |rng lo hi=>obtain⟨_,_,_,e⟩:=x;exact Heap.lt_size e
 |frz ob u=>obtain⟨e,_⟩:=x;exact Heap.lt_size e
 |tbl ps=>exact Heap.lt_size (show h.get? a=some _ from x)
 |met f y=>exact Heap.lt_size (show h.get? a=some _ from x)
 |ext φ=>obtain⟨_,⟨_,e⟩,_⟩:=x;exact Heap.lt_size e
theorem Paired.mapP{α β:Type}{F G:α→β→Prop}:∀{l₁:List α} {l₂:List β},Paired F l₁ l₂→(∀a b,F a b→G a b)→Paired G l₁ l₂
 |_,_,.nil,_=>.nil
 |_,_,.cons r t,f=>.cons (f _ _ r) (Paired.mapP t f)
theorem bV.stay(x:bV P w H h a o)(k:∀b u,(b=a∨H b=some (.own a))→h.get? b=some u→h'.get? b=some u)
 (ho:∀b,H b=some (.own a)→H' b=some (.own a)) (ht:∀b xs,H b=some (.tup xs)→H' b=some (.tup xs)):bV P w H' h' a o:=by
 induction o with
 |lst xs=>obtain⟨z,aD,n,r,e⟩:=x;exact⟨z,aD,n,r,k _ _ (.inl rfl) e⟩
 |tup xs=>obtain⟨z,aD,r,ob,e,c⟩:=x;exact⟨z,aD,r,ob,k _ _ (.inl rfl) e,c⟩
 |dK aB=>obtain⟨z,y,vs,r,ob,es,ep,e,c⟩:=x;exact⟨z,y,vs,r,ob,es,ep,k _ _ (.inl rfl) e,c⟩
 |dT aB=>
  obtain⟨z,y,xs,r,ob,es,ep,e,c⟩:=x
  exact⟨z,y,xs,Paired.mapP r fun p q z=>⟨z.1,ht _ _ z.2.1,z.2.2⟩,ob,es,ep,k _ _ (.inl rfl) e,c⟩
 |set S n=>obtain⟨ob,es,ep,t,e,c⟩:=x;exact⟨ob,es,ep,t,k _ _ (.inl rfl) e,c⟩
 |ins C dx fs=>
  obtain⟨d,z,ne,e,mA,⟨od,es,ep,e2,c⟩,r⟩:=x
  exact⟨ho _ d,z,ne,k _ _ (.inl rfl) e,mA,⟨od,es,ep,k _ _ (.inr d) e2,c⟩,r⟩
 |own y=>obtain⟨ob,e⟩:=x;exact⟨ob,k _ _ (.inl rfl) e⟩
 |xd fs=>obtain⟨mA,⟨od,es,ep,e,c⟩,r⟩:=x;exact⟨mA,⟨od,es,ep,k _ _ (.inl rfl) e,c⟩,r⟩
 |rng lo hi=>obtain⟨t,u,v,e⟩:=x;exact⟨t,u,v,k _ _ (.inl rfl) e⟩
 |frz ob u ih=>obtain⟨e,q⟩:=x;exact⟨k _ _ (.inl rfl) e,ih q⟩
 |tbl ps=>
  have e:h.get? a=some {cls:=.none,data:=.fields ps}:=x
  show h'.get? a=some {cls:=.none,data:=.fields ps}
  exact k a _ (.inl rfl) e
 |met f y=>
  have e:h.get? a=some (PySem.W.methodObj (.ref f) (.ref y)):=x
  show h'.get? a=some (PySem.W.methodObj (.ref f) (.ref y))
  exact k a _ (.inl rfl) e
 |ext φ=>obtain⟨p,⟨o,e⟩,st⟩:=x;exact⟨st _ _ p fun o q=>k _ _ (.inl rfl) q,⟨o,k _ _ (.inl rfl) e⟩,st⟩
theorem dG.lt(x:dG P w H h)(e:H a=some o):a<h.objs.size:=(x a o e).lt
theorem dG.fresh(x:dG P w H h)(e:h.objs.size≤a):H a=none:=by
 cases q:H a with
 |none=>rfl
 |some u=>exact absurd (Nat.lt_of_lt_of_le (x.lt q) e) (Nat.lt_irrefl _)
theorem dG.kept(x:dG P w H h)(k:∀b u,h.get? b=some u→h'.get? b=some u):dG P w H h':=fun a o e=>
 (x a o e).stay (fun b u _ q=>k b u q) (fun _ q=>q) fun _ _ q=>q
theorem dG.laid(x:dG P w H h)(k:∀b u,h.get? b=some u→h'.get? b=some u)(hp:h.objs.size≤a)(new:bV P w (upd H a o) h' a o):dG P w (upd H a o) h':=fun b u e=>by
 have hn:=x.fresh hp
 by_cases hb:b=a
 ·subst hb;rw [av] at e;cases e;exact new
 ·rw [ag hb] at e;exact(x b u e).stay (fun c v _ q=>k c v q) (fun c q=>by rw [ag (df q hn)];exact q) fun c xs q=>by rw [ag (df q hn)];exact q
end
def Rd(H:Hp)(a:Addr)(u:HO):Prop:=H a=some u∨∃o,H a=some (.frz o u)
theorem Rd.ok{P:Program}{w:World}{H:Hp}{h:Heap}{a:Addr}{u:HO}(r:Rd H a u)(x:dG P w H h):bV P w H h a u:=by
 rcases r with r|⟨o,r⟩
 ·exact x a u r
 ·obtain⟨_,q⟩:=x a _ r
  exact q
def IU:Option HO→Prop
 |some (.lst _)=>True
 |some (.dK _)=>True
 |some (.dT _)=>True
 |some (.set _ _)=>True
 |some (.ins _ _ _)=>True
 |some (.ext _)=>True
 |_=>False
section
variable{P:Program}{w:World}{H:Hp}{h h':Heap}{x e:Addr}{o':HO}
theorem dG.write(ok:dG P w H h)(mu:IU (H x))(he:e=x∨H e=some (.own x))(k:∀b u,b≠e→h.get? b=some u→h'.get? b=some u)(Gm:∃u,h'.get? e=some u)
 (new:bV P w (upd H x o') h' x o'):dG P w (upd H x o') h':=fun b u q=>by
 have Iw:∀c y,H c=some (.own y)→c≠x:=fun c y r z=>by subst z;rw [r] at mu;exact mu
 have LS:∀c xs,H c=some (.tup xs)→c≠x:=fun c xs r z=>by subst z;rw [r] at mu;exact mu
 by_cases hb:b=x
 ·subst hb;rw [av] at q;cases q;exact new
 ·rw [ag hb] at q
  by_cases hbe:b=e
  ·have q':H b=some (.own x):=by
    rcases he with z|z
    ·exact absurd (hbe.trans z) hb
    ·rw [hbe];exact z
   rw [q] at q';cases q';obtain⟨v,hv⟩:=Gm
   exact⟨v,by rw [hbe];exact hv⟩
  ·refine(ok b u q).stay (fun c v hc r=>k c v ?_ r) (fun c r=>by rw [ag (Iw c b r)];exact r) fun c xs r=>by rw [ag (LS c xs r)];exact r
   rcases hc with rfl|hc
   ·exact hbe
   ·rintro rfl
    rcases he with z|z
    ·exact Iw c b hc z
    ·rw [hc] at z;cases z;exact hb rfl
end
structure Un(fs ex:List Addr)(H H':Hp)(h h':Heap):Prop where
 keep:∀b o,h.get? b=some o→H b=none→b∉fs→b∉ex→h'.get? b=some o
 slot:∀b o,h.get? b=some o→H b=none→b∈fs→b∉ex→∃sl,h'.get? b=some {o with slots:=sl}
 free:∀b o,h.get? b=some o→H b=none→b∉ex→H' b=none
 there:∀b o,h.get? b=some o→b∉ex→∃o',h'.get? b=some o'
 tups:∀b xs,H b=some (.tup xs)→H' b=some (.tup xs)
 frzs:∀b o u,H b=some (.frz o u)→H' b=some (.frz o u)
 tbls:∀b ps,H b=some (.tbl ps)→∃more,H' b=some (.tbl (ps++more))
section
variable{fs JO ex Og:List Addr}{H H1 H2:Hp}{h h1 h2 h':Heap}{a x e:Addr}{o:HO}
theorem Un.any(u:Un fs ex H H1 h h1){b:Addr}{ob:Obj}(q:h.get? b=some ob)(n:H b=none)(hx:b∉ex):∃sl,h1.get? b=some {ob with slots:=sl}:=by
 by_cases hb:b∈fs
 ·exact u.slot b ob q n hb hx
 ·exact⟨ob.slots,u.keep b ob q n hb hx⟩
theorem Un.kept(k:∀b u,h.get? b=some u→h'.get? b=some u):Un fs ex H H h h':=
 ⟨fun b ob q _ _ _=>k b ob q,fun b ob q _ _ _=>⟨ob.slots,k b ob q⟩,fun _ _ _ n _=>n,fun b ob q _=>⟨ob,k b ob q⟩,fun _ _ q=>q,fun _ _ _ q=>q,fun _ ps q=>⟨#[],by rw [q];simp⟩⟩
theorem Un.refl:Un fs ex H H h h:=Un.kept fun _ _ q=>q
theorem Un.laid(k:∀b u,h.get? b=some u→h'.get? b=some u)(hp:h.objs.size≤a)(hn:H a=none):Un fs ex H (upd H a o) h h' where
 keep:=fun b u q _ _ _=>k b u q
 slot:=fun b u q _ _ _=>⟨u.slots,k b u q⟩
 free:=fun b u q n _=>by rw [ag (Nat.ne_of_lt (Nat.lt_of_lt_of_le (Heap.lt_size q) hp))];exact n
 there:=fun b u q _=>⟨u,k b u q⟩
 tups:=fun b xs q=>by rw [ag (df q hn)];exact q
 frzs:=fun b u xs q=>by rw [ag (df q hn)];exact q
 tbls:=fun b ps q=>⟨#[],by rw [ag (df q hn),q];simp⟩
theorem Un.write(mu:IU (H x))(he:e=x∨H e=some (.own x))(k:∀b u,b≠e→h.get? b=some u→h'.get? b=some u)(Gm:∃u,h'.get? e=some u):Un fs ex H (upd H x o) h h':=by
 have hx:∀b,H b=none→b≠x:=fun b n z=>by subst z;rw [n] at mu;exact mu
 have hb:∀b,H b=none→b≠e:=fun b n z=>by
  subst z;rcases he with r|r
  ·exact hx b n r
  ·rw [n] at r;cases r
 have hm:∀b u,H b=some u→¬IU (some u)→b≠x:=fun b u q nm z=>by subst z;rw [q] at mu;exact nm mu
 refine⟨fun b u q n _ _=>k b u (hb b n) q,fun b u q n _ _=>⟨u.slots,k b u (hb b n) q⟩,fun b u q n _=>by rw [ag (hx b n)];exact n,fun b u q _=>?_,
  fun b xs q=>by rw [ag (hm b _ q fun z=>z)];exact q,fun b u xs q=>by rw [ag (hm b _ q fun z=>z)];exact q,fun b ps q=>⟨#[],by rw [ag (hm b _ q fun z=>z),q];simp⟩⟩
 by_cases hbe:b=e
 ·subst hbe;exact Gm
 ·exact⟨u,k b u hbe q⟩
end
def JE(h:Heap)(H:Hp):List Addr:=(List.range h.objs.size).filter fun a=>(H a).isSome
def nu(h:Heap)(H:Hp):Heap:=PySem.W.hideAll h (JE h H)
theorem uV(h:Heap)(H:Hp):(nu h H).objs.size=h.objs.size:=PySem.W.hideAll_size _ _
theorem yo{h:Heap}{H:Hp}{b:Addr}{o:Obj}(e:h.get? b=some o)(n:H b=none):(nu h H).get? b=some o:=
 PySem.W.hideAll_get _ e fun hm=>by
  have q:(H b).isSome=true:=(List.mem_filter.mp hm).2
  rw [n] at q;simp at q
theorem Bq{h:Heap}{H:Hp}{b:Addr}{o:Obj}(e:(nu h H).get? b=some o):h.get? b=some o∧H b=none:=by
 have e':h.get? b=some o:=PySem.W.of_hideAll (JE h H) e
 refine⟨e',?_⟩;cases q:H b with
 |none=>rfl
 |some x=>
  have hm:b∈JE h H:=List.mem_filter.mpr ⟨List.mem_range.mpr (Heap.lt_size e'),by simp [q]⟩
  have z:(nu h H).get? b=none:=PySem.W.hideAll_none (JE h H) hm
  rw [z] at e;cases e
def Bg(g h:Heap)(L:Addr):List (Addr×Obj):=(List.range h.objs.size).filterMap fun a=>if a=L∨(g.get? a).isSome=true then none else(h.get? a).map fun o=>(a,o)
def rest(g h:Heap)(L d:Addr):List (Addr×Obj):=(Bg g h L).filter fun p=>decide (p.1≠d)
end L2
namespace L2
open PySem PySem.Spec PyProof.Rows
structure Mod(K:PySem.W.Frag)(mg:Str→Option Value)(base:Heap):Prop where
 kin:K.In base
 glob:base.Ns mainGlobals mg
 blt:∃mb,base.Ns builtinsNs mb∧∀x:Str,x≠"__name__"→mb x=bootBuiltins x
 nolimit:base.NoLimit
structure Cx where
 prog:Program
 w:World
 K:PySem.W.Frag
 mg:Str→Option Value
 base:Heap
 A:Around
 N:List Str
 s₀:Shared
 H₀:Hp
 env:Env
 outer:List Env
 stack:List Env
 ex:List Addr
 fn:Str→Bool
 calm:Bool
 pn:List (Addr×Obj)
 xe:Value→Shared→Prop
def dZ(l:List Env):List Addr:=l.filterMap (·.frame)
abbrev Cx.fs(X:Cx):List Addr:=dZ X.outer
def Jd(sc:Scope)(x:Str):Prop:=sc.names.lookup x=some .local∨sc.names.lookup x=some .cell∨sc.names.lookup x=some .free
def Loc(sc:Scope)(x:Str):Prop:=sc.names.lookup x=some .local∨sc.names.lookup x=some .cell
def Look(env:Env)(h:Heap)(m:Str→Option Value)(x:Str)(u:Value):Prop:=
 (env.kindOf x=some .local∧m x=some u)∨((env.kindOf x=some .cell∨env.kindOf x=some .free)∧∃c,env.cells.lookup x=some c∧h.IsCell c (some u))
structure Cx.Ok(X:Cx):Prop where
 mod:Mod X.K X.mg X.base
 kind:X.env.scope.kind=.function
 glob:X.env.globals=mainGlobals
 blt:X.env.builtins=builtinsNs
 above:X.s₀.heap.objs.size≤X.env.locals
 inj:∀x y c,X.env.cells.lookup x=some c→X.env.cells.lookup y=some c→x=y
 has:∀x,(X.env.kindOf x=some .cell∨X.env.kindOf x=some .free)→∃c,X.env.cells.lookup x=some c
 cab:∀x c,X.fn x=true→X.env.cells.lookup x=some c→X.s₀.heap.objs.size≤c
 hd:X.calm=true→X.A.handled=none
 frames:X.A.frames=some X.stack
 stk:X.stack=X.outer∨(X.stack=X.env::X.outer∧X.env.frame=some X.env.locals)
 exf:∀b∈X.ex,b≠X.env.locals∧∀x c,X.env.cells.lookup x=some c→c≠b
 bs:∀b o,X.base.get? b=some o→X.s₀.heap.get? b=some o∧X.H₀ b=none
 bsz:X.base.objs.size≤X.s₀.heap.objs.size
 noex:∀b o,X.base.get? b=some o→b∉X.ex
 exfs:∀b∈X.ex,b∉X.fs
 funs:X.s₀.heap.FunFrames X.base X.outer
 frf:∀b∈X.fs,X.H₀ b=none
structure Inv(X:Cx)(pins:List (Addr×Obj))(σ:List (Option V))(H:Hp)(s:Shared):Prop where
 ok:X.Ok
 os:s.os=X.s₀.os
 bare:AllBare s.gens
 base:Un X.fs X.ex X.H₀ H X.s₀.heap s.heap
 loc:∃m,s.heap.Ns X.env.locals m∧∀(i:Nat) (x:Str) (v:V),X.N[i]?=some x→σ[i]?=some (some v)→Jd X.env.scope x→∃u,RelV v u∧Look X.env s.heap m x u
 cell:∀x c,X.env.cells.lookup x=some c→∃v,s.heap.IsCell c v
 free:H X.env.locals=none
 freeC:∀x c,X.env.cells.lookup x=some c→H c=none
 pin:∀p∈X.pn++pins,s.heap.get? p.1=some p.2∧H p.1=none∧p.1≠X.env.locals∧p.1∉X.fs∧∀v,p.2.data≠.cell v
 hok:dG X.prog X.w H s.heap
 len:σ.length=X.N.length
section
variable{X:Cx}{pins:List (Addr×Obj)}{σ:List (Option V)}{H H':Hp}{s:Shared}{h':Heap}
theorem Cx.Ok.nofr(ok:X.Ok){b:Addr}{o:Obj}(e:X.base.get? b=some o):b∉X.fs:=fun hb=>by
 have:=(ok.funs.mem hb).1
 rw [e] at this;cases this
theorem Inv.bs(I:Inv X pins σ H s):∀b o,X.base.get? b=some o→s.heap.get? b=some o∧H b=none:=fun b o e=>
 ⟨I.base.keep b o (I.ok.bs b o e).1 (I.ok.bs b o e).2 (I.ok.nofr e) (I.ok.noex b o e),I.base.free b o (I.ok.bs b o e).1 (I.ok.bs b o e).2 (I.ok.noex b o e)⟩
theorem Inv.bk(I:Inv X pins σ H s):∀b o,X.base.get? b=some o→s.heap.get? b=some o:=fun b o e=>(I.bs b o e).1
theorem Inv.mod(I:Inv X pins σ H s):Mod X.K X.mg X.base:=I.ok.mod
theorem Inv.kIn(I:Inv X pins σ H s):X.K.In s.heap:=I.ok.mod.kin.keeps I.bk
theorem Inv.fr(I:Inv X pins σ H s):∃m,Fr X.base X.env.locals s.heap m:=
 let⟨m,hn,_⟩:=I.loc
 ⟨m,hn,I.bk,Nat.le_trans I.ok.bsz I.ok.above⟩
theorem Inv.lt(I:Inv X pins σ H s):X.env.locals<s.heap.objs.size:=let⟨_,hn,_⟩:=I.loc;hn.lt
theorem Inv.sz(I:Inv X pins σ H s):X.s₀.heap.objs.size≤s.heap.objs.size:=Nat.le_trans I.ok.above (Nat.le_of_lt I.lt)
theorem Inv.nofs(I:Inv X pins σ H s){a:Addr}(h:s.heap.objs.size≤a):a∉X.fs:=fun hb=>by
 obtain⟨_,o,ho,_⟩:=I.ok.funs.mem hb
 exact absurd (Nat.lt_of_lt_of_le (Heap.lt_size ho) (Nat.le_trans I.sz h)) (Nat.lt_irrefl _)
theorem Inv.cne(I:Inv X pins σ H s):∀x c,X.env.cells.lookup x=some c→c≠X.env.locals:=fun x c e z=>by
 obtain⟨v,o,ho,hd⟩:=I.cell x c e
 obtain⟨m,⟨o',es,ep,eN,JG,_⟩,_⟩:=I.loc
 rw [z,eN] at ho;cases ho;rw [JG] at hd;cases hd
theorem Inv.funs(I:Inv X pins σ H s):s.heap.FunFrames X.base X.outer:=by
 have all:∀(l:List Env),(∀b∈dZ l,b∈X.fs)→X.s₀.heap.FunFrames X.base l→s.heap.FunFrames X.base l:=by
  intro l
  induction l with
  |nil=>intro _ _;trivial
  |cons env r ih=>
   intro hs hl;obtain⟨hk,⟨L,o,hf,hn,ho,hd⟩,hr⟩:=hl
   have hL:L∈X.fs:=hs L (by unfold dZ;rw [List.filterMap_cons,hf];exact List.mem_cons_self)
   obtain⟨sl,e⟩:=I.base.slot L o ho (I.ok.frf L hL) hL fun z=>I.ok.exfs L z hL
   exact⟨hk,⟨L,_,hf,hn,e,hd⟩,ih (fun b hb=>hs b (by unfold dZ;rw [List.filterMap_cons,hf];exact List.mem_cons_of_mem _ hb)) hr⟩
 exact all X.outer (fun _ hb=>hb) I.ok.funs
theorem Inv.stack(I:Inv X pins σ H s):s.heap.FunFrames X.base X.stack:=by
 rcases I.ok.stk with e|⟨e,hf⟩
 ·rw [e];exact I.funs
 ·rw [e];obtain⟨m,hn,_⟩:=I.loc
  refine .cons (by rw [I.ok.kind];decide) hf hn ?_ I.funs;exact Heap.get?_none_of_le (Nat.le_trans I.ok.bsz I.ok.above)
theorem Inv.stkSub(I:Inv X pins σ H s):∀b∈dZ X.stack,b∈X.env.locals::X.fs:=fun b hb=>by
 rcases I.ok.stk with e|⟨e,hf⟩
 ·rw [e] at hb;exact List.mem_cons_of_mem _ hb
 ·rw [e] at hb;unfold dZ at hb;rw [List.filterMap_cons,hf] at hb;exact hb
theorem Inv.stkFree(I:Inv X pins σ H s):∀b∈dZ X.stack,H b=none:=fun b hb=>by
 rcases List.mem_cons.mp (I.stkSub b hb) with e|hb
 ·rw [e];exact I.free
 ·obtain⟨_,o,ho,_⟩:=I.ok.funs.mem hb
  exact I.base.free b o ho (I.ok.frf b hb) fun z=>I.ok.exfs b z hb
theorem Inv.step{g':Array GenState}{t':Nat}{d':Drawn}{ch:List Addr}(I:Inv X pins σ H s)
 (wx:∀b∈ch,(b∈X.ex∨X.s₀.heap.objs.size≤b)∧b≠X.env.locals∧(∀x c,X.env.cells.lookup x=some c→c≠b)∧∀p∈X.pn++pins,p.1≠b)
 (keep:∀b o,b≠X.env.locals→b∉X.fs→b∉ch→s.heap.get? b=some o→H b=none→h'.get? b=some o)
 (slot:∀b o,b≠X.env.locals→b∈X.fs→b∉ch→s.heap.get? b=some o→H b=none→∃sl,h'.get? b=some {o with slots:=sl}) (free:∀b o,b∉ch→s.heap.get? b=some o→H b=none→H' b=none)
 (there:∀b o,b∉ch→s.heap.get? b=some o→∃o',h'.get? b=some o')
 (tups:∀b xs,H b=some (.tup xs)→H' b=some (.tup xs)) (frzs:∀b o u,H b=some (.frz o u)→H' b=some (.frz o u)) (tbls:∀b ps,H b=some (.tbl ps)→∃more,H' b=some (.tbl (ps++more)))
 (ns:∀m,s.heap.Ns X.env.locals m→h'.Ns X.env.locals m) (hok:dG X.prog X.w H' h') (hg:AllBare g'):
 Inv X pins σ H' {s with heap:=h',gens:=g',drawn:=d',toks:=t'}:=by
 have K4:∀b o,X.s₀.heap.get? b=some o→b≠X.env.locals:=fun b o e=>Nat.ne_of_lt (Nat.lt_of_lt_of_le (Heap.lt_size e) I.ok.above)
 have DQ:∀b o,X.s₀.heap.get? b=some o→b∉X.ex→b∉ch:=fun b o e hx hb=>by
  rcases(wx b hb).1 with z|z
  ·exact hx z
  ·exact absurd (Nat.lt_of_lt_of_le (Heap.lt_size e) z) (Nat.lt_irrefl _)
 have cellK:∀x c,X.env.cells.lookup x=some c→∀v,s.heap.IsCell c v→h'.IsCell c v:=fun x c e v ⟨o,ho,hd⟩=>by
  have GN:c∉ch:=fun z=>(wx c z).2.2.1 x c e rfl
  by_cases hc:c∈X.fs
  ·obtain⟨sl,q⟩:=slot c o (I.cne x c e) hc GN ho (I.freeC x c e)
   exact⟨_,q,hd⟩
  ·exact⟨o,keep c o (I.cne x c e) hc GN ho (I.freeC x c e),hd⟩
 refine⟨I.ok,I.os,hg,⟨fun b o e n hb hx=>?_,fun b o e n hb hx=>?_,fun b o e n hx=>?_,fun b o e hx=>?_,fun b xs e=>tups b xs (I.base.tups b xs e),fun b o xs e=>frzs b o xs (I.base.frzs b o xs e),fun b ps e=>?_⟩,?_,fun x c e=>?_,?_,fun x c e=>?_,fun p hp=>?_,hok,I.len⟩
 ·exact keep b o (K4 b o e) hb (DQ b o e hx) (I.base.keep b o e n hb hx) (I.base.free b o e n hx)
 ·obtain⟨sl,e1⟩:=I.base.slot b o e n hb hx
  obtain⟨sl',e2⟩:=slot b _ (K4 b o e) hb (DQ b o e hx) e1 (I.base.free b o e n hx)
  exact⟨sl',e2⟩
 ·obtain⟨o',e1⟩:=I.base.there b o e hx
  exact free b o' (DQ b o e hx) e1 (I.base.free b o e n hx)
 ·obtain⟨o',e1⟩:=I.base.there b o e hx
  exact there b o' (DQ b o e hx) e1
 ·obtain⟨m1,e1⟩:=I.base.tbls b ps e
  obtain⟨m2,e2⟩:=tbls b _ e1
  exact⟨m1++m2,by rw [e2,Array.append_assoc]⟩
 ·obtain⟨m,hn,hl⟩:=I.loc
  refine⟨m,ns m hn,fun i x v e1 e2 e3=>?_⟩
  obtain⟨u,r,l⟩:=hl i x v e1 e2 e3
  refine⟨u,r,?_⟩;rcases l with l|⟨k,c,e,z⟩
  ·exact .inl l
  ·exact .inr ⟨k,c,e,cellK x c e _ z⟩
 ·obtain⟨v,z⟩:=I.cell x c e
  exact⟨v,cellK x c e v z⟩
 ·obtain⟨m,⟨o,_,_,ho,_⟩,_⟩:=I.loc
  exact free _ o (fun z=>(wx _ z).2.1 rfl) ho I.free
 ·obtain⟨v,o,ho,hd⟩:=I.cell x c e
  exact free c o (fun z=>(wx c z).2.2.1 x c e rfl) ho (I.freeC x c e)
 ·obtain⟨e,n,ne,nf,d⟩:=I.pin p hp
  have GN:p.1∉ch:=fun z=>(wx p.1 z).2.2.2 p hp rfl
  exact⟨keep p.1 p.2 ne nf GN e n,free p.1 p.2 GN e n,ne,nf,d⟩
theorem Inv.un{t':Nat}(I:Inv X pins σ H s)(u:Un X.fs [] H H' s.heap h')(hok:dG X.prog X.w H' h'):Inv X pins σ H' {s with heap:=h',toks:=t'}:=by
 obtain⟨m,⟨o,es,ep,ho,r⟩,_⟩:=id I.loc
 obtain⟨sl,hL⟩:=u.any ho I.free (by simp)
 exact I.step (g':=s.gens) (d':=s.drawn) (ch:=[]) (fun _ z=>nomatch z) (fun b o _ hb _ e n=>u.keep b o e n hb (by simp)) (fun b o _ hb _ e n=>u.slot b o e n hb (by simp)) (fun b o _ e n=>u.free b o e n (by simp)) (fun b o _ e=>u.there b o e (by simp)) u.tups u.frzs u.tbls (fun m' hm=>by
  obtain⟨o',wy,ep',eN,r'⟩:=hm
  rw [ho] at eN;cases eN;exact⟨_,wy,ep',hL,r'⟩) hok I.bare
theorem Inv.call{g':Array GenState}{t':Nat}{d':Drawn}{ch:List Addr}(I:Inv X pins σ H s)(u:Un (dZ X.stack) ch H H' s.heap h')(hok:dG X.prog X.w H' h')(hg:AllBare g')
 (wx:∀b∈ch,(b∈X.ex∨X.s₀.heap.objs.size≤b)∧b≠X.env.locals∧(∀x c,X.env.cells.lookup x=some c→c≠b)∧∀p∈X.pn++pins,p.1≠b):
 Inv X pins σ H' {s with heap:=h',gens:=g',drawn:=d',toks:=t'}:=by
 obtain⟨m,⟨o,es,ep,ho,r⟩,_⟩:=id I.loc
 obtain⟨sl,hL⟩:=u.any ho I.free fun z=>(wx _ z).2.1 rfl
 exact I.step (ch:=ch) wx (fun b o hL hb hc e n=>u.keep b o e n (fun z=>(List.mem_cons.mp (I.stkSub b z)).elim hL hb) hc) (fun b o _ _ hc e n=>u.any e n hc) (fun b o hc e n=>u.free b o e n hc) (fun b o hc e=>u.there b o e hc) u.tups u.frzs u.tbls (fun m' hm=>by
  obtain⟨o',wy,ep',eN,r'⟩:=hm
  rw [ho] at eN;cases eN;exact⟨_,wy,ep',hL,r'⟩) hok hg
theorem Inv.turned{t':Nat}{it:Addr}(I:Inv X pins σ H s)(k:∀b o,b≠it→s.heap.get? b=some o→h'.get? b=some o)(hn:H it=none)(hL:it≠X.env.locals)
 (h1:it∈X.ex∨X.s₀.heap.objs.size≤it) (h2:∀x c,X.env.cells.lookup x=some c→c≠it) (h3:∀p∈X.pn++pins,p.1≠it):Inv X pins σ H {s with heap:=h',toks:=t'}:=by
 have MS:∀b u,H b=some u→b≠it:=fun b u e z=>by rw [z,hn] at e;cases e
 refine I.step (g':=s.gens) (d':=s.drawn) (ch:=[it]) (fun b hb=>?_) (fun b o _ _ hc e _=>k b o (fun z=>hc (by simp [z])) e) (fun b o _ _ hc e _=>⟨o.slots,k b o (fun z=>hc (by simp [z])) e⟩) (fun _ _ _ _ n=>n)
  (fun b o hc e=>⟨o,k b o (fun z=>hc (by simp [z])) e⟩) (fun _ _ e=>e) (fun _ _ _ e=>e) (fun b ps e=>⟨#[],by rw [e];simp⟩) (fun m hm=>?_) (fun b u e=>?_) I.bare
 ·have e:b=it:=by simpa using hb
  subst e;exact⟨h1,hL,h2,h3⟩
 ·obtain⟨o,es,ep,ho,r⟩:=hm
  exact⟨o,es,ep,k _ o (Ne.symm hL) ho,r⟩
 ·refine(I.hok b u e).stay (fun c v hc q=>k c v ?_ q) (fun _ q=>q) fun _ _ q=>q
  rcases hc with z|z
  ·rw [z];exact MS b u e
  ·exact MS c _ z
theorem Inv.tok(I:Inv X pins σ H s)(t:Nat):Inv X pins σ H {s with toks:=t}:=I.un (h':=s.heap) (t':=t) Un.refl I.hok
theorem Inv.kept{t':Nat}(I:Inv X pins σ H s)(k:∀b u,s.heap.get? b=some u→h'.get? b=some u):Inv X pins σ H {s with heap:=h',toks:=t'}:=I.un (Un.kept k) (I.hok.kept k)
theorem Inv.laid{a:Addr}{o:HO}{t':Nat}(I:Inv X pins σ H s)(k:∀b u,s.heap.get? b=some u→h'.get? b=some u)(hp:s.heap.objs.size≤a)(new:bV X.prog X.w (upd H a o) h' a o):
 Inv X pins σ (upd H a o) {s with heap:=h',toks:=t'}:=I.un (Un.laid k hp (I.hok.fresh hp)) (I.hok.laid k hp new)
theorem Inv.write{x e:Addr}{o:HO}{t':Nat}(I:Inv X pins σ H s)(mu:IU (H x))(he:e=x∨H e=some (.own x))(k:∀b u,b≠e→s.heap.get? b=some u→h'.get? b=some u)(Gm:∃u,h'.get? e=some u)
 (new:bV X.prog X.w (upd H x o) h' x o):Inv X pins σ (upd H x o) {s with heap:=h',toks:=t'}:=I.un (Un.write mu he k Gm) (I.hok.write mu he k Gm new)
theorem Inv.pins_of{uj:List (Addr×Obj)}(I:Inv X pins σ H s)(h:∀p∈uj,s.heap.get? p.1=some p.2∧H p.1=none∧p.1≠X.env.locals∧p.1∉X.fs∧∀v,p.2.data≠.cell v):Inv X uj σ H s:=
 ⟨I.ok,I.os,I.bare,I.base,I.loc,I.cell,I.free,I.freeC,fun p hp=>(List.mem_append.mp hp).elim (fun z=>I.pin p (List.mem_append_left _ z)) (h p),I.hok,I.len⟩
theorem j1{N:List Str}(hN:N.Nodup){i j:Nat}{x:Str}(a:N[i]?=some x)(b:N[j]?=some x):i=j:=by
 obtain⟨h1,e1⟩:=List.getElem?_eq_some_iff.mp a
 obtain⟨h2,e2⟩:=List.getElem?_eq_some_iff.mp b
 exact(List.getElem_inj hN).mp (e1.trans e2.symm)
theorem iw{M:Model}{A:Around}{E:Value→Shared→Prop}{i:Nat}{x:Str}{v:V}{u:Value}{Q:Unit→Shared→Prop}(I:Inv X pins σ H s)(hN:X.N.Nodup)(hi:X.N[i]?=some x)(hx:Loc X.env.scope x)(r:RelV v u)
 (h:∀s',Inv X pins (σ.set i (some v)) H s'→(∃a,Heap.SameBut a s.heap s'.heap∧(a=X.env.locals∨X.env.cells.lookup x=some a))→Q () s') (hf:X.fn x=true∨X.env.scope.names.lookup x=some .local:=by first|exact .inl rfl|exact .inr rfl|assumption):wpAny M A (storeName X.env x u) Q E s:=by
 obtain⟨m,hn,hl⟩:=id I.loc
 have Ln:(X.env.scope.kind==.class||(X.env.scope.kind==.module&&X.env.locals !=X.env.globals))=false:=by rw [I.ok.kind];rfl
 have hiσ:i<σ.length:=by rw [I.len];exact(List.getElem?_eq_some_iff.mp hi).1
 have cne:=I.cne
 have tracked:∀{a:Addr} {h':Heap},(∃o,s.heap.get? a=some o∧H a=none)→Heap.SameBut a s.heap h'→dG X.prog X.w H h':=fun{a h'} ha hs b ob e=>by
  obtain⟨_,_,hfree⟩:=ha
  refine(I.hok b ob e).stay (fun c w' hc q=>(hs.2 c ?_).trans q) (fun _ q=>q) fun _ _ q=>q
  rintro rfl
  rcases hc with rfl|hc
  ·rw [hfree] at e;cases e
  ·rw [hfree] at hc;cases hc
 rcases hx with hk|hk
 ·refine wpAny_storeName_local hk hn (fun h' OI hs=>?_) Ln;obtain⟨oL,_,_,Jt,_⟩:=id hn
  refine h _ ⟨I.ok,I.os,I.bare,⟨fun b o e n hb hx=>?_,fun b o e n hb hx=>?_,I.base.free,fun b o e hx=>?_,I.base.tups,I.base.frzs,I.base.tbls⟩,⟨_,OI,fun j y v' e1 e2 e3=>?_⟩,fun y c e=>?_,I.free,I.freeC,fun p hp=>?_,tracked ⟨oL,Jt,I.free⟩ hs,by simpa using I.len⟩ ⟨_,hs,.inl rfl⟩
  ·exact(hs.2 b (Nat.ne_of_lt (Nat.lt_of_lt_of_le (Heap.lt_size e) I.ok.above))).trans (I.base.keep b o e n hb hx)
  ·obtain⟨sl,e1⟩:=I.base.slot b o e n hb hx
   exact⟨sl,(hs.2 b (Nat.ne_of_lt (Nat.lt_of_lt_of_le (Heap.lt_size e) I.ok.above))).trans e1⟩
  ·obtain⟨o',e1⟩:=I.base.there b o e hx
   exact⟨o',(hs.2 b (Nat.ne_of_lt (Nat.lt_of_lt_of_le (Heap.lt_size e) I.ok.above))).trans e1⟩
  ·by_cases hj:j=i
   ·subst hj;rw [hi] at e1;cases e1;rw [List.getElem?_set_self hiσ] at e2;cases e2;exact⟨u,r,.inl ⟨hk,by simp⟩⟩
   ·rw [List.getElem?_set_ne (Ne.symm hj)] at e2;obtain⟨u',r',q⟩:=hl j y v' e1 e2 e3
    refine⟨u',r',?_⟩;rcases q with⟨k,e⟩|⟨k,c,e,z⟩
    ·refine .inl ⟨k,?_⟩;have:y≠x:=fun e=>hj (j1 hN e1 (e▸hi))
     simp [this,e]
    ·exact .inr ⟨k,c,e,z.sameBut hs (cne y c e)⟩
  ·obtain⟨w',z⟩:=I.cell y c e
   exact⟨w',z.sameBut hs (cne y c e)⟩
  ·obtain⟨e,n,ne,nf,d⟩:=I.pin p hp
   exact⟨(hs.2 p.1 ne).trans e,n,ne,nf,d⟩
 ·have qi:X.fn x=true:=by
   rcases hf with z|z
   ·exact z
   ·rw [z] at hk;cases hk
  obtain⟨c,hc⟩:=I.ok.has x (.inl hk)
  obtain⟨w',z⟩:=I.cell x c hc
  refine wpAny_storeName_cell I.ok.kind hk hc z (fun h' gD hs=>?_);obtain⟨oc,hoc,hocd⟩:=id z
  refine h {s with heap:=h'} ⟨I.ok,I.os,I.bare,⟨fun b o e n hb hx=>?_,fun b o e n hb hx=>?_,I.base.free,fun b o e hx=>?_,I.base.tups,I.base.frzs,I.base.tbls⟩,⟨m,hn.sameBut hs (Ne.symm (cne x c hc)),fun j y v' e1 e2 e3=>?_⟩,fun y c' e=>?_,I.free,I.freeC,fun p hp=>?_,tracked ⟨oc,hoc,I.freeC x c hc⟩ hs,by simpa using I.len⟩ ⟨c,hs,.inr hc⟩
  ·exact(hs.2 b (Nat.ne_of_lt (Nat.lt_of_lt_of_le (Heap.lt_size e) (I.ok.cab x c qi hc)))).trans (I.base.keep b o e n hb hx)
  ·obtain⟨sl,e1⟩:=I.base.slot b o e n hb hx
   exact⟨sl,(hs.2 b (Nat.ne_of_lt (Nat.lt_of_lt_of_le (Heap.lt_size e) (I.ok.cab x c qi hc)))).trans e1⟩
  ·obtain⟨o',e1⟩:=I.base.there b o e hx
   exact⟨o',(hs.2 b (Nat.ne_of_lt (Nat.lt_of_lt_of_le (Heap.lt_size e) (I.ok.cab x c qi hc)))).trans e1⟩
  ·by_cases hj:j=i
   ·subst hj;rw [hi] at e1;cases e1;rw [List.getElem?_set_self hiσ] at e2;cases e2;exact⟨u,r,.inr ⟨.inl hk,c,hc,gD⟩⟩
   ·rw [List.getElem?_set_ne (Ne.symm hj)] at e2;obtain⟨u',r',q⟩:=hl j y v' e1 e2 e3
    refine⟨u',r',?_⟩;rcases q with q|⟨k,c',e,z'⟩
    ·exact .inl q
    ·refine .inr ⟨k,c',e,z'.sameBut hs ?_⟩
     rintro rfl
     exact hj (j1 hN e1 (I.ok.inj _ _ _ e hc▸hi))
  ·by_cases hcc:c'=c
   ·subst hcc;exact⟨_,gD⟩
   ·obtain⟨w2,z2⟩:=I.cell y c' e
    exact⟨w2,z2.sameBut hs hcc⟩
  ·obtain⟨e,n,ne,nf,d⟩:=I.pin p hp
   refine⟨(hs.2 p.1 ?_).trans e,n,ne,nf,d⟩;intro q;rw [q,hoc] at e;have q':oc=p.2:=Option.some.inj e
   exact d w' (by rw [←q'];exact hocd)
theorem qf{M:Model}{A:Around}{E:Value→Shared→Prop}{i:Nat}{x:Str}{v:V}{u:Value}{Q:Unit→Shared→Prop}(I:Inv X pins σ H s)(hN:X.N.Nodup)(hi:X.N[i]?=some x)(hx:Loc X.env.scope x)(r:RelV v u)
 (h:∀s',Inv X pins (σ.set i (some v)) H s'→Q () s') (hf:X.fn x=true∨X.env.scope.names.lookup x=some .local:=by first|exact .inl rfl|exact .inr rfl|assumption):wpAny M A (storeName X.env x u) Q E s:=
 iw I hN hi hx r (fun s' I' _=>h s' I') hf
theorem Inv.call'{s':Shared}{ch:List Addr}(I:Inv X pins σ H s)(ho:s'.os=s.os)(u:Un (dZ X.stack) ch H H' s.heap s'.heap)(hok:dG X.prog X.w H' s'.heap)(hg:AllBare s'.gens)
 (wx:∀b∈ch,(b∈X.ex∨X.s₀.heap.objs.size≤b)∧b≠X.env.locals∧(∀x c,X.env.cells.lookup x=some c→c≠b)∧∀p∈X.pn++pins,p.1≠b):Inv X pins σ H' s':=by
 obtain⟨h',g',d',t',o'⟩:=s'
 have e:o'=s.os:=ho
 subst e;exact I.call (g':=g') (t':=t') (d':=d') u hok hg wx
end
abbrev XK:=Value→Option Addr→Hp→Prop
abbrev St:=List (Option V)
abbrev VK:=V→Hp→Prop
abbrev TE:=St→Hp→VK→Prop
abbrev TT:=St→Hp→(Bool→Hp→Prop)→Prop
abbrev TA:=St→Hp→(List V→Hp→Prop)→Prop
structure Ends where
 nx:St→Hp→Prop
 rt:VK
 bk:St→Hp→Prop:=fun _ _=>False
 ct:St→Hp→Prop:=fun _ _=>False
abbrev TS:=Ends→St→Hp→Prop
def EP(X:Cx)(pins:List (Addr×Obj))(σ:St)(Q:VK)(u:Value)(s':Shared):Prop:=∃v H',Inv X pins σ H' s'∧RelV v u∧Q v H'
def TP(X:Cx)(pins:List (Addr×Obj))(σ:St)(Q:Bool→Hp→Prop)(b:Bool)(s':Shared):Prop:=∃H',Inv X pins σ H' s'∧Q b H'
def AP(X:Cx)(pins:List (Addr×Obj))(σ:St)(Q:List V→Hp→Prop)(us:List Value)(s':Shared):Prop:=∃vs H',Inv X pins σ H' s'∧Vals vs us∧Q vs H'
def SP(X:Cx)(pins:List (Addr×Obj))(D:Ends)(f:Flow)(s':Shared):Prop:=
 match f with
 |.next=>∃σ' H',Inv X pins σ' H' s'∧D.nx σ' H'
 |.brk=>∃σ' H',Inv X pins σ' H' s'∧D.bk σ' H'
 |.cont=>∃σ' H',Inv X pins σ' H' s'∧D.ct σ' H'
 |.ret u=>∃v σ' H',Inv X pins σ' H' s'∧RelV v u∧D.rt v H'
def PE(X:Cx)(e:Expr)(t:TE):Prop:=
 ∀(pins:List (Addr×Obj)) (s:Shared) (σ:St) (H:Hp) (Q:VK),Inv X pins σ H s→t σ H Q→wpAny (model X.prog X.w) X.A (eval e X.env) (EP X pins σ Q) X.xe s
def PT(X:Cx)(e:Expr)(t:TT):Prop:=
 ∀(pins:List (Addr×Obj)) (s:Shared) (σ:St) (H:Hp) (Q:Bool→Hp→Prop),Inv X pins σ H s→t σ H Q→wpAny (model X.prog X.w) X.A (isTrue e X.env (eval e X.env)) (TP X pins σ Q) X.xe s
def PW(X:Cx)(e:Expr)(t:TT):Prop:=
 ∀(whole:Sem Value) (pins:List (Addr×Obj)) (s:Shared) (σ:St) (H:Hp) (Q:Bool→Hp→Prop),Inv X pins σ H s→t σ H Q→wpAny (model X.prog X.w) X.A (isTrue e X.env whole) (TP X pins σ Q) X.xe s
theorem PW.pt{X:Cx}{e:Expr}{t:TT}(h:PW X e t):PT X e t:=h _
def PA(X:Cx)(es:List Expr)(t:TA):Prop:=
 ∀(pos:Pos) (pins:List (Addr×Obj)) (s:Shared) (σ:St) (H:Hp) (Q:List V→Hp→Prop),Inv X pins σ H s→t σ H Q→wpAny (model X.prog X.w) X.A (spliced (backTo pos (starEach es X.env))) (AP X pins σ Q) X.xe s
def PS(X:Cx)(st:Stmt)(t:TS):Prop:=
 ∀(pins:List (Addr×Obj)) (s:Shared) (σ:St) (H:Hp) (D:Ends),Inv X pins σ H s→t D σ H→wpAny (model X.prog X.w) X.A (exec st X.env) (SP X pins D) X.xe s
def PSs(X:Cx)(st:List Stmt)(t:TS):Prop:=
 ∀(pins:List (Addr×Obj)) (s:Shared) (σ:St) (H:Hp) (D:Ends),Inv X pins σ H s→t D σ H→wpAny (model X.prog X.w) X.A (execs st X.env) (SP X pins D) X.xe s
theorem bR{α:Type}{t:Sem α}{Q Q':α→Shared→Prop}{M:Model}{A:Around}{E:Value→Shared→Prop}{s:Shared}(h:wpAny M A t Q E s)(hQ:∀a s,Q a s→Q' a s):wpAny M A t Q' E s:=wpAny_mono h hQ fun _ _ x=>x
end L2
namespace L2
open PySem PySem.Spec PyProof.Rows
section
variable{X:Cx}
theorem bin{a b:Expr}{ta tb:TE}(ha:PE X a ta)(hb:PE X b tb){pins:List (Addr×Obj)}{s:Shared}{σ:St}{H:Hp}{R:V→V→Hp→Prop}(I:Inv X pins σ H s)(h:ta σ H fun x H1=>tb σ H1 fun y H2=>R x y H2)
 {α:Type} {Q:α→Shared→Prop} {f:Value→Value→Sem α}
 (hf:∀v u s2 x y H2,Inv X pins σ H2 s2→RelV x v→RelV y u→R x y H2→wpAny (model X.prog X.w) X.A (f v u) Q X.xe s2):
 wpAny (model X.prog X.w) X.A (eval a X.env) (fun v s₁=>wpAny (model X.prog X.w) X.A (eval b X.env) (fun u s₂=>wpAny (model X.prog X.w) X.A (f v u) Q X.xe s₂) X.xe s₁) X.xe s:=by
 refine bR (ha pins s σ H _ I h) fun v s1 ⟨x,H1,I1,r1,q1⟩=>?_
 refine bR (hb pins s1 σ H1 _ I1 q1) fun u s2 ⟨y,H2,I2,r2,q2⟩=>?_
 exact hf v u s2 x y H2 I2 r1 r2 q2
def yt(i:Nat):TE:=fun σ H Q=>∃v,σ[i]?=some (some v)∧Q v H
def tC(v:V):TE:=fun _ H Q=>Q v H
theorem eQ{i:Nat}{x:Str}{pos:Pos}(hN:X.N[i]?=some x)(hv:Jd X.env.scope x)(hd:(x==("__debug__":Str))=false:=by decide)(rZ:(x==("__classdict__":Str))=false:=by decide):PE X (.Name x pos) (yt i):=by
 intro pins s σ H Q I h;obtain⟨v,e,h⟩:=h
 obtain⟨m,hn,hl⟩:=I.loc
 obtain⟨u,r,l⟩:=hl i x v hN e hv
 have fin:EP X pins σ Q u s:=⟨v,H,I,r,h⟩
 rcases l with⟨hk,hm⟩|⟨hk,c,hc,dC⟩
 ·exact wpAny_Name (wpAny_loadName_local I.ok.kind hk hn hm fin) hd
 ·rcases hk with hk|hk
  ·exact wpAny_Name (wpAny_loadName_cell I.ok.kind hk hc dC fin) hd
  ·exact wpAny_Name (wpAny_loadName_free I.ok.kind hk hc dC fin rZ) hd
theorem rC{i j pos}:PE X (.Constant (.int i) j pos) (tC (.int i)):=fun _ _ _ H _ I h=>wpAny_Constant_int ⟨.int i,H,I.tok _,⟨_,rfl⟩,h⟩
theorem GP{b j pos}:PE X (.Constant (.bool b) j pos) (tC (.bl b)):=fun _ _ _ H _ I h=>Constant_bool ⟨.bl b,H,I,rfl,h⟩
theorem FN{j pos}:PE X (.Constant .none j pos) (tC .non):=fun _ _ _ H _ I h=>Constant_none ⟨.non,H,I,rfl,h⟩
theorem xJ{x j pos}:PE X (.Constant (.str x) j pos) (tC (.str x)):=fun _ _ _ H _ I h=>Calls.Constant_str ⟨.str x,H,I.tok _,⟨_,rfl⟩,h⟩
def Gl(X:Cx)(x:Str):Prop:=X.env.kindOf x=some .globalImplicit
theorem fZ{E:Value→Shared→Prop}{pins:List (Addr×Obj)}{s:Shared}{σ:St}{H:Hp}{x:Str}{u:Value}{pos:Pos}{Q:Value→Shared→Prop}(I:Inv X pins σ H s)(hg:Gl X x)(hm:X.mg x=some u)(h:Q u s)
 (hd:(x==("__debug__":Str))=false:=by decide):wpAny (model X.prog X.w) X.A (eval (.Name x pos) X.env) Q E s:=
 Calls.Name_function_global I.ok.kind hg (Calls.loadGlobal_global (by rw [I.ok.glob];exact I.mod.glob.keeps I.bk) hm h) hd
theorem eU{E:Value→Shared→Prop}{pins:List (Addr×Obj)}{s:Shared}{σ:St}{H:Hp}{x:Str}{u:Value}{pos:Pos}{Q:Value→Shared→Prop}(I:Inv X pins σ H s)(hg:Gl X x)(hm:X.mg x=none)(hv:bootBuiltins x=some u)(h:Q u s)
 (hn:x≠"__name__":=by decide) (hd:(x==("__debug__":Str))=false:=by decide):wpAny (model X.prog X.w) X.A (eval (.Name x pos) X.env) Q E s:=by
 obtain⟨mb,h1,h2⟩:=I.mod.blt
 exact Calls.Name_function_global I.ok.kind hg (Calls.loadGlobal_builtin (by rw [I.ok.glob];exact I.mod.glob.keeps I.bk) hm (by rw [I.ok.blt];exact h1.keeps I.bk) ((h2 x hn).trans hv) h) hd
theorem AM{x:Str}{v:V}{u:Value}{pos:Pos}(hg:Gl X x)(hm:X.mg x=some u)(r:RelV v u)(hd:(x==("__debug__":Str))=false:=by decide):PE X (.Name x pos) (tC v):=
 fun _ _ _ H _ I h=>fZ I hg hm ⟨v,H,I,r,h⟩ hd
theorem Bz{x:Str}{v:V}{u:Value}{pos:Pos}(hg:Gl X x)(hm:X.mg x=none)(hv:bootBuiltins x=some u)(r:RelV v u)(hn:x≠"__name__":=by decide)(hd:(x==("__debug__":Str))=false:=by decide):PE X (.Name x pos) (tC v):=
 fun _ _ _ H _ I h=>eU I hg hm hv ⟨v,H,I,r,h⟩ hn hd
variable{a b:Expr}{ta tb:TE}{pos:Pos}
def tB(t:TE):TT:=fun σ H Q=>t σ H fun x H1=>∃c,x=.bl c∧Q c H1
theorem D9{e:Expr}{t:TE}(h:PE X e t)(he:∀whole,isTrue e X.env whole=(do let v←whole;standAt e.pos;holding [v] (truthy v)):=by intro _;rfl):PT X e (tB t):=by
 intro pins s σ H Q I hw;refine isTrue_plain (bR (h pins s σ H _ I hw) fun v s1 ⟨x,H1,I1,r1,q1⟩=>?_) (he _)
 obtain⟨d,rfl,q⟩:=q1
 cases r1;exact wpAny_truthy_bool ⟨H1,I1,q⟩
variable{tA F2:TT}{rest:List Expr}
def KG(t u:TT):TT:=fun σ H Q=>t σ H fun c H1=>if c=true then u σ H1 Q else Q false H1
def Ov(t u:TT):TT:=fun σ H Q=>t σ H fun c H1=>if c=true then Q true H1 else u σ H1 Q
def Kg(t:TT):TT:=fun σ H Q=>t σ H fun c H1=>Q (!c) H1
theorem pw_and1(ha:PT X a tA):PW X (.BoolOp .And [a] pos) tA:=by
 intro wh pins s σ H Q I h;refine isTrue_and (bR (ha pins s σ H Q I h) fun c s1 e=>?_)
 cases c with
 |true=>exact isTrue_and_nil e
 |false=>exact e
theorem pw_or1(ha:PT X a tA):PW X (.BoolOp .Or [a] pos) tA:=by
 intro wh pins s σ H Q I h;refine isTrue_or (bR (ha pins s σ H Q I h) fun c s1 e=>?_)
 cases c with
 |false=>exact isTrue_or_nil e
 |true=>exact e
theorem pw_and(ha:PT X a tA)(hb:PW X (.BoolOp .And (b::rest) pos) F2):PW X (.BoolOp .And (a::b::rest) pos) (KG tA F2):=by
 intro wh pins s σ H Q I h;refine isTrue_and (bR (ha pins s σ H _ I h) fun c s1 ⟨H1,I1,q1⟩=>?_)
 cases c with
 |true=>exact hb wh pins s1 σ H1 Q I1 q1
 |false=>exact⟨H1,I1,q1⟩
theorem pw_or(ha:PT X a tA)(hb:PW X (.BoolOp .Or (b::rest) pos) F2):PW X (.BoolOp .Or (a::b::rest) pos) (Ov tA F2):=by
 intro wh pins s σ H Q I h;refine isTrue_or (bR (ha pins s σ H _ I h) fun c s1 ⟨H1,I1,q1⟩=>?_)
 cases c with
 |true=>exact⟨H1,I1,q1⟩
 |false=>exact hb wh pins s1 σ H1 Q I1 q1
theorem Dv(ha:PT X a tA):PT X (.UnaryOp .Not a pos) (Kg tA):=by
 intro pins s σ H Q I h;exact isTrue_not (ha pins s σ H (fun c H1=>Q (!c) H1) I h)
def Iv(ta tb:TE):TE:=fun σ H Q=>ta σ H fun x H1=>∃c,x=.bl c∧if c=true then tb σ H1 Q else Q (.bl false) H1
def Lr(ta tb:TE):TE:=fun σ H Q=>ta σ H fun x H1=>∃c,x=.bl c∧if c=true then Q (.bl true) H1 else tb σ H1 Q
def IZ(ta:TE):TE:=fun σ H Q=>ta σ H fun x H1=>∃c,x=.bl c∧Q (.bl (!c)) H1
theorem yv{op}{t:TE}(h:PE X a t):PE X (.BoolOp op [a] pos) t:=fun pins s σ H Q I hw=>BoolOp_one (h pins s σ H Q I hw)
theorem Fc(ha:PE X a ta)(hb:PE X (.BoolOp .And (b::rest) pos) tb):PE X (.BoolOp .And (a::b::rest) pos) (Iv ta tb):=by
 intro pins s σ H Q I h;refine BoolOp_and (bR (ha pins s σ H _ I h) fun v s1 ⟨x,H1,I1,r1,q1⟩=>?_)
 obtain⟨c,rfl,q1⟩:=q1
 cases r1;refine wpAny_truthy_bool ?_;cases c with
 |true=>exact hb pins s1 σ H1 Q I1 q1
 |false=>exact⟨.bl false,H1,I1,rfl,q1⟩
theorem IV(ha:PE X a ta)(hb:PE X (.BoolOp .Or (b::rest) pos) tb):PE X (.BoolOp .Or (a::b::rest) pos) (Lr ta tb):=by
 intro pins s σ H Q I h;refine BoolOp_or (bR (ha pins s σ H _ I h) fun v s1 ⟨x,H1,I1,r1,q1⟩=>?_)
 obtain⟨c,rfl,q1⟩:=q1
 cases r1;refine wpAny_truthy_bool ?_;cases c with
 |false=>exact hb pins s1 σ H1 Q I1 q1
 |true=>exact⟨.bl true,H1,I1,rfl,q1⟩
theorem E3(ha:PE X a ta):PE X (.UnaryOp .Not a pos) (IZ ta):=by
 intro pins s σ H Q I h;refine UnaryOp_ (bR (ha pins s σ H _ I h) fun v s1 ⟨x,H1,I1,r1,q1⟩=>?_)
 obtain⟨c,rfl,q1⟩:=q1
 cases r1;exact not_of (wpAny_truthy_bool ⟨.bl (!c),H1,I1,rfl,q1⟩)
def NL(t:TT)(ta tb:TE):TE:=fun σ H Q=>t σ H fun c H1=>if c=true then ta σ H1 Q else tb σ H1 Q
theorem zl{c:Expr}(hc:PT X c tA)(ha:PE X a ta)(hb:PE X b tb):PE X (.IfExp c a b pos) (NL tA ta tb):=by
 intro pins s σ H Q I h;refine wpAny_IfExp (bR (hc pins s σ H _ I h) fun d s1 ⟨H1,I1,q1⟩=>?_)
 cases d with
 |true=>exact ha pins s1 σ H1 Q I1 q1
 |false=>exact hb pins s1 σ H1 Q I1 q1
end
end L2
namespace L2
open PySem PySem.Spec PyProof.Rows
def gk(K:PySem.W.Frag)(H:Hp)(a:Addr)(xs:List V):Prop:=
 Rd H a (.lst xs)∨
  ∃(o:Obj) (aD:Array Value) (n:Nat),K.lookup a=some o∧o.cls=.type "list"∧o.dict=none∧o.data=.seq aD n∧aD.size≤sizeLine∧Vals xs aD.toList
def eJ(K:PySem.W.Frag)(H:Hp)(a:Addr)(xs:List V):Prop:=
 Rd H a (.tup xs)∨
  ∃(o:Obj) (aD:Array Value) (n:Nat),K.lookup a=some o∧o.cls=.type "tuple"∧o.data=.seq aD n∧aD.size≤sizeLine∧Vals xs aD.toList
noncomputable def Lf:Value→Option V
 |.none=>some .non
 |.bool b=>some (.bl b)
 |.int i _=>some (.int i)
 |.str x _=>some (.str x)
 |.bytes b _=>some (.byt b)
 |.float b _=>some (.flt b)
 |.ref a=>some (.ref a)
 |.type n=>some (.ty n)
 |_=>none
theorem RelV.abs{x:V}{u:Value}(r:RelV x u):Lf u=some x:=by
 cases x with
 |non=>cases r;rfl
 |bl _=>cases r;rfl
 |int _=>obtain⟨t,rfl⟩:=r;rfl
 |str _=>obtain⟨t,rfl⟩:=r;rfl
 |byt _=>obtain⟨t,rfl⟩:=r;rfl
 |flt _=>obtain⟨t,rfl⟩:=r;rfl
 |ref _=>cases r;rfl
 |ty _=>cases r;rfl
theorem RelV.inj{x y:V}{u:Value}(r:RelV x u)(q:RelV y u):x=y:=Option.some.inj (r.abs.symm.trans q.abs)
theorem Vals.inj:∀{xs ys:List V} {us:List Value},Vals xs us→Vals ys us→xs=ys
 |_,_,_,.nil,.nil=>rfl
 |_,_,_,.cons r t,.cons r' t'=>by rw [r.inj r',Vals.inj t t']
section
variable{X:Cx}{pins:List (Addr×Obj)}{σ:St}{H:Hp}{s:Shared}{a:Addr}{xs ys:List V}
theorem gk.of{K:PySem.W.Frag}(h:H a=some (.lst xs)):gk K H a xs:=.inl (.inl h)
theorem Inv.list(I:Inv X pins σ H s)(h:gk X.K H a xs):∃aD:List Value,Vals xs aD∧PlainL s.heap a aD.toArray∧xs.length≤sizeLine:=by
 rcases h with h|⟨o,aD,n,hk,hc,hd,hs,hz,r⟩
 ·obtain⟨z,aD,n,r,e⟩:=h.ok I.hok
  exact⟨aD,r,⟨_,n,e,rfl,rfl,rfl⟩,z⟩
 ·refine⟨aD.toList,r,⟨o,n,I.kIn a o hk,hc,hd,by simpa using hs⟩,?_⟩;have e:=r.length
  simp only [Array.length_toList] at e;omega
theorem Inv.tuple(I:Inv X pins σ H s)(h:eJ X.K H a xs):∃aD:List Value,Vals xs aD∧IsTup s.heap a aD.toArray∧xs.length≤sizeLine:=by
 rcases h with h|⟨o,aD,n,hk,hc,hs,hz,r⟩
 ·obtain⟨z,aD,r,p⟩:=h.ok I.hok
  exact⟨aD,r,p,z⟩
 ·refine⟨aD.toList,r,⟨o,I.kIn a o hk,hc,n,by simpa using hs⟩,?_⟩;have e:=r.length
  simp only [Array.length_toList] at e;omega
theorem Inv.list_inj(I:Inv X pins σ H s)(h:gk X.K H a xs)(h':gk X.K H a ys):xs=ys:=by
 obtain⟨aD,r,⟨o,n,e,_,_,d⟩,_⟩:=I.list h
 obtain⟨its',r',⟨o',n',e',_,_,d'⟩,_⟩:=I.list h'
 rw [e] at e';cases e';rw [d] at d'
 injection d' with d1 _
 have:aD=its':=by simpa using congrArg Array.toList d1
 subst this;exact r.inj r'
theorem Inv.tuple_inj(I:Inv X pins σ H s)(h:eJ X.K H a xs)(h':eJ X.K H a ys):xs=ys:=by
 obtain⟨aD,r,⟨o,e,_,n,d⟩,_⟩:=I.tuple h
 obtain⟨its',r',⟨o',e',_,n',d'⟩,_⟩:=I.tuple h'
 rw [e] at e';cases e';rw [d] at d'
 injection d' with d1 _
 have:aD=its':=by simpa using congrArg Array.toList d1
 subst this;exact r.inj r'
end
section
variable{X:Cx}{pins:List (Addr×Obj)}{σ:St}{H:Hp}{s:Shared}{E:Value→Shared→Prop}
end
section
variable{X:Cx}{st:Stmt}{rest:List Stmt}{t u:TS}{e:Expr}{te:TE}{pos:Pos}
def GY:TS:=fun D σ H=>D.nx σ H
def Lw(t u:TS):TS:=fun D σ H=>t {D with nx:=u D} σ H
theorem AL:PSs X [] GY:=fun _ _ σ H _ I h=>wpAny_execs_nil ⟨σ,H,I,h⟩
theorem xu(h1:PS X st t)(h2:PSs X rest u):PSs X (st::rest) (Lw t u):=by
 intro pins s σ H D I h;refine wpAny_execs_cons (bR (h1 pins s σ H {D with nx:=u D} I h) fun f s1 q=>?_)
 cases f with
 |next=>
  obtain⟨σ',H',I',q⟩:=q
  exact h2 pins s1 σ' H' D I' q
 |ret v=>exact q
 |brk=>exact q
 |cont=>exact q
def D6:TS:=fun D σ H=>D.bk σ H
theorem yw:PS X (.Break pos) D6:=fun _ _ σ H _ I h=>wpAny_Break ⟨σ,H,I,h⟩
theorem Inv.quiet{pins:List (Addr×Obj)}{σ:St}{H:Hp}{s:Shared}(I:Inv X pins σ H s):interactive X.env=false:=by simp [interactive,I.ok.kind]
def Jb(te:TE):TS:=fun D σ H=>te σ H fun _ H1=>D.nx σ H1
theorem nH(he:PE X e te)(hs:swapsWith e none pos.line X.env=pure false:=by rfl):PS X (.Expr e pos) (Jb te):=by
 intro pins s σ H D I h;exact wpAny_Expr_any (bR (he pins s σ H _ I h) fun v s1 ⟨x,H1,I1,r1,q1⟩=>⟨σ,H1,I1,q1⟩) I.quiet hs
def Lp(te:TE):TS:=fun D σ H=>te σ H D.rt
theorem Ez(he:PE X e te):PS X (.Return (some e) pos) (Lp te):=by
 intro pins s σ H D I h;exact wpAny_Return_some (bR (he pins s σ H _ I h) fun v s1 ⟨x,H1,I1,r1,q1⟩=>⟨x,σ,H1,I1,r1,q1⟩)
def Lh(c:TT)(t u:TS):TS:=fun D σ H=>c σ H fun b H1=>if b=true then t D σ H1 else u D σ H1
theorem IF{c:Expr}{a b:List Stmt}{tc:TT}(hc:PT X c tc)(ha:PSs X a t)(hb:PSs X b u):PS X (.If c a b pos) (Lh tc t u):=by
 intro pins s σ H D I h;refine wpAny_If (bR (hc pins s σ H _ I h) fun d s1 ⟨H1,I1,q1⟩=>?_)
 cases d with
 |true=>exact ha pins s1 σ H1 D I1 q1
 |false=>exact hb pins s1 σ H1 D I1 q1
end
abbrev TG:=V→St→Hp→(St→Hp→Prop)→Prop
abbrev zG:=List V→St→Hp→(St→Hp→Prop)→Prop
def PG(X:Cx)(target:Expr)(t:TG):Prop:=
 ∀(pins:List (Addr×Obj)) (s:Shared) (σ:St) (H:Hp) (v:V) (u:Value) (Q:St→Hp→Prop),Inv X pins σ H s→RelV v u→t v σ H Q→
  wpAny (model X.prog X.w) X.A (assign target X.env u) (fun _ s'=>∃σ' H',Inv X pins σ' H' s'∧Q σ' H') X.xe s
def Gp(X:Cx)(ts:List Expr)(t:zG):Prop:=
 ∀(pins:List (Addr×Obj)) (s:Shared) (σ:St) (H:Hp) (vs:List V) (us:List Value) (Q:St→Hp→Prop),Inv X pins σ H s→Vals vs us→t vs σ H Q→
  wpAny (model X.prog X.w) X.A (assignInOrder ((assignEach ts X.env).map (·.2)) us) (fun _ s'=>∃σ' H',Inv X pins σ' H' s'∧Q σ' H') X.xe s
abbrev E0:=V→V→V→Hp→(Hp→Prop)→Prop
def IJ(X:Cx)(t:E0):Prop:=
 ∀(pins:List (Addr×Obj)) (s:Shared) (σ:St) (H:Hp) (o i v:V) (ov iv u:Value) (Q:Hp→Prop),Inv X pins σ H s→RelV o ov→RelV i iv→RelV v u→t o i v H Q→
  wpAny (model X.prog X.w) X.A (setItem ov iv u) (fun _ s'=>∃H',Inv X pins σ H' s'∧Q H') X.xe s
section
variable{X:Cx}{pos:Pos}
def fM(i:Nat):TG:=fun v σ H Q=>Q (σ.set i (some v)) H
theorem sU{i:Nat}{x:Str}(hN:X.N.Nodup)(hi:X.N[i]?=some x)(hx:Loc X.env.scope x)(hf:X.fn x=true∨X.env.scope.names.lookup x=some .local:=by first|exact .inl rfl|exact .inr rfl|assumption):PG X (.Name x pos) (fM i):=by
 intro pins s σ H v u Q I r h;exact wpAny_assign_Name (qf I hN hi hx r (fun s' I'=>⟨_,H,I',h⟩) hf)
def D8:zG:=fun vs σ H Q=>vs=[]∧Q σ H
def uq(t:TG)(u:zG):zG:=fun vs σ H Q=>∃v r,vs=v::r∧t v σ H fun σ' H'=>u r σ' H' Q
theorem sy:Gp X [] D8:=by
 intro pins s σ H vs us Q I r h;obtain⟨e,h⟩:=h
 subst e;cases r;exact assignInOrder_nil ⟨σ,H,I,h⟩
theorem jk{e:Expr}{es:List Expr}{t:TG}{u:zG}(h1:PG X e t)(h2:Gp X es u)
 (hs:(assignEach (e::es) X.env).map (·.2)=assign e X.env::(assignEach es X.env).map (·.2):=by rfl):Gp X (e::es) (uq t u):=by
 intro pins s σ H vs us Q I r h;obtain⟨v,vr,e1,h⟩:=h
 subst e1;cases r with
 |cons r rr=>
  rw [hs];refine assignInOrder_cons (bR (h1 pins s σ H _ _ _ I r h) fun _ s1 ⟨σ1,H1,I1,q1⟩=>?_)
  exact h2 pins s1 σ1 H1 _ _ Q I1 rr q1
noncomputable def GZ(K:PySem.W.Frag)(n:Nat)(t:zG):TG:=fun v σ H Q=>∃a xs,v=.ref a∧eJ K H a xs∧xs.length=n∧t xs σ H Q
theorem FT{es:List Expr}{k:Nat}{t:zG}{n:Nat}(hc:X.calm=true)(h:Gp X es t)
 (hn:(assignEach es X.env).length=n:=by rfl) (dm:(assignEach es X.env).findIdx? (·.1)=none:=by rfl):PG X (.Tuple es k pos) (GZ X.K n t):=by
 intro pins s σ H v u Q I r hw;obtain⟨a,xs,e1,hq,hl,hw⟩:=hw
 subst e1;cases r;obtain⟨aD,rv,ht,hz⟩:=I.tuple hq
 refine assign_Tuple_tuple (I.ok.hd hc) ht (by simp [hn,←hl,rv.length]) dm fun h' hx=>?_
 have I1:Inv X pins σ H {s with heap:=h'}:=I.kept (t':=s.toks) fun b o e=>hx b o (Nat.ne_of_lt (Heap.lt_size e)) e
 exact h pins _ σ H xs _ Q I1 (by simpa using rv) hw
def LN(to ti:TE)(t:E0):TG:=fun v σ H Q=>to σ H fun o H1=>ti σ H1 fun i H2=>t o i v H2 fun H3=>Q σ H3
theorem xb{o i:Expr}{to ti:TE}{t:E0}(ho:PE X o to)(hi:PE X i ti)(hs:IJ X t)
 (ha:∀v,assign (.Subscript o i pos) X.env v=(do
  let ov←holding [v] (eval o X.env)
  let iv←holding [v,ov] (eval i X.env)
  standAt pos
  holding [v,ov,iv] (setItem ov iv v)
  release [v,ov,iv] []):=by intro _;rfl):PG X (.Subscript o i pos) (LN to ti t):=by
 intro pins s σ H v u Q I r h;rw [ha];refine wpAny_bind (wpAny_holding (bR (ho pins s σ H _ I h) fun ov s1 ⟨x,H1,I1,r1,q1⟩=>?_))
 refine wpAny_bind (wpAny_holding (bR (hi pins s1 σ H1 _ I1 q1) fun iv s2 ⟨y,H2,I2,r2,q2⟩=>?_))
 refine wpAny_bind (wpAny_standAt (wpAny_bind (wpAny_holding (bR (hs pins s2 σ H2 x y v ov iv u _ I2 r1 r2 r q2) fun _ s3 ⟨H3,I3,q3⟩=>?_))))
 exact wpAny_release ⟨σ,H3,I3,q3⟩
def B0(te:TE)(g:TG):TS:=fun D σ H=>te σ H fun x H1=>g x σ H1 D.nx
theorem qX{tg e:Expr}{te:TE}{g:TG}(he:PE X e te)(hg:PG X tg g)(hs:swapsWithSole [tg] e pos.line X.env=pure false:=by rfl)(hw:swappedStores [tg] e X.env=pure none:=by rfl)
 (h1:(assignEach [tg] X.env).map (·.2)=[assign tg X.env]:=by rfl):PS X (.Assign [tg] e pos) (B0 te g):=by
 intro pins s σ H D I h;refine wpAny_Assign_stores (bR (he pins s σ H _ I h) fun v s1 ⟨x,H1,I1,r1,q1⟩=>?_) hs hw
 rw [h1];exact bR (hg pins s1 σ H1 x v _ I1 r1 q1) fun _ s2 q=>q
theorem nq{i:Nat}{x:Str}{e:Expr}{te:TE}{pos':Pos}(hN:X.N.Nodup)(hi:X.N[i]?=some x)(hx:Loc X.env.scope x)(he:PE X e te)(hs:swapsWith e (some (.Name x pos')) pos.line X.env=pure false:=by rfl)(hf:X.fn x=true∨X.env.scope.names.lookup x=some .local:=by first|exact .inl rfl|exact .inr rfl|assumption):
 PS X (.Assign [.Name x pos'] e pos) (B0 te (fM i)):=by
 intro pins s σ H D I h;refine wpAny_Assign_Name (bR (he pins s σ H _ I h) fun v s1 ⟨y,H1,I1,r1,q1⟩=>?_) hs
 exact qf I1 hN hi hx r1 (fun s2 I2=>⟨_,H1,I2,q1⟩) hf
end
section
variable{X:Cx}{pos:Pos}
noncomputable def FC(c:TT)(tb:TS):TS:=fun D σ H=>∃W:Nat→St→Hp→Prop,(∃m,W m σ H)∧∀m σ H,W m σ H→
 c σ H fun b H1=>if b=true then∃N:St→Hp→Prop,(∀σ' H',N σ' H'→∃m',m'<m∧W m' σ' H')∧tb {D with nx:=N,ct:=N,bk:=D.nx} σ H1 else D.nx σ H1
theorem yF{c:Expr}{body:List Stmt}{tc:TT}{tb:TS}(hp:PassesOwn (model X.prog X.w) X.A X.env X.xe)(hc:PT X c tc)(hb:PSs X body tb):PS X (.While c body [] pos) (FC tc tb):=by
 intro pins s σ H D I h;obtain⟨W,⟨m0,w0⟩,turn⟩:=h
 refine wpAny_While (codeAny_whileLoop (fun n s'=>∃σ' H',Inv X pins σ' H' s'∧W n σ' H') ?_ m0 ⟨σ,H,I,w0⟩)
 rintro n s1 ⟨σ1,H1,I1,w1⟩
 refine wpAny_passesOwn hp (bR (hc pins s1 σ1 H1 _ I1 (turn n σ1 H1 w1)) fun b s2 ⟨H2,I2,q2⟩=>?_)
 cases b with
 |true=>
  obtain⟨N,hN,q2⟩:=q2
  rw [if_pos rfl];refine wpAny_passesOwn hp (bR (hb pins s2 σ1 H2 _ I2 q2) fun f s3 q3=>?_)
  cases f with
  |next=>
   obtain⟨σ3,H3,I3,n3⟩:=q3
   obtain⟨m',hm,w3⟩:=hN σ3 H3 n3
   exact⟨m',hm,σ3,H3,I3,w3⟩
  |cont=>
   obtain⟨σ3,H3,I3,n3⟩:=q3
   obtain⟨m',hm,w3⟩:=hN σ3 H3 n3
   exact⟨m',hm,σ3,H3,I3,w3⟩
  |brk=>exact q3
  |ret v=>exact q3
 |false=>
  rw [if_neg zzf];exact wpAny_execs_nil ⟨σ1,H2,I2,q2⟩
end
structure It where
 go:Nat→Hp→Prop
 yld:Nat→Hp→V→Hp→Prop
 stop:Nat→Hp→Prop
def eo(X:Cx)(pins:List (Addr×Obj))(H:Hp)(b:Addr):Prop:=
 H b=none∧b≠X.env.locals∧b∉X.fs∧(b∈X.ex∨X.s₀.heap.objs.size≤b)∧(∀x c,X.env.cells.lookup x=some c→c≠b)∧∀p∈X.pn++pins,p.1≠b
theorem Inv.fpOk{X:Cx}{pins:List (Addr×Obj)}{σ:St}{H H':Hp}{s:Shared}{b:Addr}(I:Inv X pins σ H s)(hb:s.heap.objs.size≤b)(hn:H' b=none):eo X pins H' b:=by
 refine⟨hn,Nat.ne_of_gt (Nat.lt_of_lt_of_le I.lt hb),I.nofs hb,.inr (Nat.le_trans I.sz hb),fun x c e z=>?_,fun p hp z=>?_⟩
 ·obtain⟨v,q⟩:=I.cell x c e
  exact absurd (Nat.lt_of_lt_of_le q.lt (by rw [z];exact hb)) (Nat.lt_irrefl _)
 ·exact absurd (Nat.lt_of_lt_of_le (Heap.lt_size (I.pin p hp).1) (by rw [z];exact hb)) (Nat.lt_irrefl _)
structure Turn(P:Program)(w:World)(K:PySem.W.Frag)(tg:Expr)(J:It)(fp:List Addr)(it:Addr)(tn:Nat→Heap→Prop):Prop where
 mem:it∈fp
 obj:∀i h,tn i h→∀b∈fp,∃o,h.get? b=some o∧∀v,o.data≠.cell v
 keep:∀i h h',tn i h→(∀b∈fp,∀o,h.get? b=some o→h'.get? b=some o)→tn i h'
 item:∀(X:Cx),X.prog=P→X.w=w→X.K=K→X.calm=true→∀(i:Nat) (pins:List (Addr×Obj)) (s:Shared) (σ:St) (H:Hp) (E:Value→Shared→Prop),Inv X pins σ H s→(∀b∈fp,eo X pins H b)→tn i s.heap→J.go i H→
  wpAny (model P w) X.A (pyNext (.ref it)) (fun r s1=>∃u,r=some u∧
   wpAny (model P w) X.A (letOwnedTupleGo tg (.ref it) u) (fun _ s2=>∃x H',Inv X pins σ H' s2∧RelV x u∧J.yld i H x H'∧tn (i+1) s2.heap∧∀b∈fp,H' b=none) E s1) E s
 done:∀(X:Cx),X.prog=P→X.w=w→X.K=K→X.calm=true→∀(i:Nat) (pins:List (Addr×Obj)) (s:Shared) (σ:St) (H:Hp) (E:Value→Shared→Prop),Inv X pins σ H s→(∀b∈fp,eo X pins H b)→tn i s.heap→J.stop i H→
  wpAny (model P w) X.A (pyNext (.ref it)) (fun r s1=>r=none∧Inv X pins σ H s1) E s
 self:∀(A:Around) (i:Nat) (s:Shared) (Q:Value→Shared→Prop) (E:Value→Shared→Prop),tn i s.heap→Q (.ref it) s→wpAny (model P w) A (pyIter (.ref it)) Q E s
abbrev TI:=St→Hp→(It→Hp→Prop)→Prop
def M4(X:Cx)(pins:List (Addr×Obj))(σ:St)(tg:Expr)(R:It→Hp→Prop)(J9:Value)(s2:Shared):Prop:=
 ∃(it:Addr) (fp:List Addr) (tn:Nat→Heap→Prop) (J:It) (H':Hp),J9=.ref it∧Inv X pins σ H' s2∧Turn X.prog X.w X.K tg J fp it tn∧tn 0 s2.heap∧(∀b∈fp,eo X pins H' b)∧R J H'
def PI(X:Cx)(tg iter:Expr)(wi:TI):Prop:=
 ∀(pins:List (Addr×Obj)) (s:Shared) (σ:St) (H:Hp) (R:It→Hp→Prop),Inv X pins σ H s→wi σ H R→
  wpAny (model X.prog X.w) X.A (eval iter X.env) (fun v s1=>wpAny (model X.prog X.w) X.A (pyIter v) (M4 X pins σ tg R) X.xe s1) X.xe s
theorem ug{M:Model}{A:Around}{E:Value→Shared→Prop}{s:Shared}{tg:Expr}{it:Addr}{u:Value}{o:Obj}{n:String}{vs:Array Value}{Q:Unit→Shared→Prop}(ho:s.heap.get? it=some o)(hc:o.cls=.type n)(hd:o.data=.fields vs)
 (hn:["enumerate","zip","dict_itemiterator","dict_reverseitemiterator","odict_iterator","itertools.zip_longest","itertools.pairwise"].contains n=false) (hQ:Q () s):wpAny M A (letOwnedTupleGo tg (.ref it) u) Q E s:=by
 unfold letOwnedTupleGo;cases tg<;>first
  |exact wpAny_pure hQ
  |(cases u<;>first
   |exact wpAny_pure hQ
   | (refine wpAny_bind (wpAny_load ho ?_)
      rw [hc,hd];show wpAny M A (if(["enumerate","zip","dict_itemiterator","dict_reverseitemiterator","odict_iterator","itertools.zip_longest","itertools.pairwise"].contains n&&vs[0]?==some (rawInt _))=true then _ else _) Q E s;rw [if_neg (by intro h;rw [hn,Bool.false_and] at h;cases h)];exact wpAny_pure hQ))
noncomputable def K5(K:PySem.W.Frag)(a:Addr):It:=
 ⟨fun i H=>∃xs x,gk K H a xs∧xs[i]?=some x,fun i H x H'=>H'=H∧∀xs,gk K H a xs→xs[i]?=some x,fun i H=>∃xs,gk K H a xs∧xs.length≤i⟩
noncomputable def Lk(K:PySem.W.Frag)(a:Addr):It:=
 ⟨fun i H=>∃xs x,eJ K H a xs∧xs[i]?=some x,fun i H x H'=>H'=H∧∀xs,eJ K H a xs→xs[i]?=some x,fun i H=>∃xs,eJ K H a xs∧xs.length≤i⟩
def IK(lo:Int)(n:Nat):It:=⟨fun i _=>i<n,fun i H x H'=>H'=H∧x=.int (lo+i),fun i _=>n≤i⟩
theorem v9{P:Program}{w:World}{K:PySem.W.Frag}{tg:Expr}(a it:Addr):Turn P w K tg (K5 K a) [it] it (fun i h=>h.IsListIter it a i) where
 mem:=by simp
 obj:=fun i h st b hb=>by
  have e:b=it:=by simpa using hb
  subst e;obtain⟨o,e,c,d⟩:=st
  exact⟨o,e,fun v z=>by rw [d] at z;cases z⟩
 keep:=fun i h h' st k=>st.at fun o e=>k it (by simp) o e
 item:=by
  intro X hP hw hK hc i pins s σ H E I hf st hg;subst hP hw hK;obtain⟨xs,x,hq,hx⟩:=hg
  obtain⟨aD,rv,p,hz⟩:=I.list hq
  obtain⟨u,hu,ru⟩:=rv.get hx
  obtain⟨f0,f1,f2,f3,f4,f5⟩:=hf it (by simp)
  refine wpAny_pyNext_list_item st p.isList (x:=u) (by simpa using hu) fun h' gW sb=>?_
  have I1:Inv X pins σ H {s with heap:=h'}:=I.turned (t':=s.toks) (fun b o hb e=>(sb.2 b hb).trans e) f0 f1 f3 f4 f5
  obtain⟨o,e,c,d⟩:=id gW
  exact⟨u,rfl,ug (s:={s with heap:=h'}) e c d (by decide) ⟨x,H,I1,ru,⟨rfl,fun ys hy=>by rw [I.list_inj hy hq];exact hx⟩,gW,fun b hb=>(hf b hb).1⟩⟩
 done:=by
  intro X hP hw hK hc i pins s σ H E I hf st hg;subst hP hw hK;obtain⟨xs,hq,hx⟩:=hg
  obtain⟨aD,rv,p,hz⟩:=I.list hq
  obtain⟨f0,f1,f2,f3,f4,f5⟩:=hf it (by simp)
  have hl:=rv.length
  exact wpAny_pyNext_list_end (I.ok.hd hc) st p.isList (by simp;omega) fun h' eb=>⟨rfl,I.turned (t':=s.toks) (fun b o hb e=>eb b o hb e) f0 f1 f3 f4 f5⟩
 self:=fun _ _ _ _ _ st h=>wpAny_pyIter_listiter st h
theorem rj{P:Program}{w:World}{K:PySem.W.Frag}{tg:Expr}(a it:Addr):Turn P w K tg (Lk K a) [it] it (fun i h=>h.IsTupleIter it a i) where
 mem:=by simp
 obj:=fun i h st b hb=>by
  have e:b=it:=by simpa using hb
  subst e;obtain⟨o,e,c,d⟩:=st
  exact⟨o,e,fun v z=>by rw [d] at z;cases z⟩
 keep:=fun i h h' st k=>st.at fun o e=>k it (by simp) o e
 item:=by
  intro X hP hw hK hc i pins s σ H E I hf st hg;subst hP hw hK;obtain⟨xs,x,hq,hx⟩:=hg
  obtain⟨aD,rv,p,hz⟩:=I.tuple hq
  obtain⟨u,hu,ru⟩:=rv.get hx
  obtain⟨f0,f1,f2,f3,f4,f5⟩:=hf it (by simp)
  refine wpAny_pyNext_tuple_item st (show s.heap.IsTuple a aD.toArray from p) (x:=u) (by simpa using hu) fun h' gW sb=>?_
  have I1:Inv X pins σ H {s with heap:=h'}:=I.turned (t':=s.toks) (fun b o hb e=>(sb.2 b hb).trans e) f0 f1 f3 f4 f5
  obtain⟨o,e,c,d⟩:=id gW
  exact⟨u,rfl,ug (s:={s with heap:=h'}) e c d (by decide) ⟨x,H,I1,ru,⟨rfl,fun ys hy=>by rw [I.tuple_inj hy hq];exact hx⟩,gW,fun b hb=>(hf b hb).1⟩⟩
 done:=by
  intro X hP hw hK hc i pins s σ H E I hf st hg;subst hP hw hK;obtain⟨xs,hq,hx⟩:=hg
  obtain⟨aD,rv,p,hz⟩:=I.tuple hq
  obtain⟨f0,f1,f2,f3,f4,f5⟩:=hf it (by simp)
  have hl:=rv.length
  exact wpAny_pyNext_tuple_end (I.ok.hd hc) st (show s.heap.IsTuple a aD.toArray from p) (by simp;omega) fun h' eb=>⟨rfl,I.turned (t':=s.toks) (fun b o hb e=>eb b o hb e) f0 f1 f3 f4 f5⟩
 self:=fun _ _ _ _ _ st h=>wpAny_pyIter_tupleiter st h
theorem qH{P:Program}{w:World}{K:PySem.W.Frag}{tg:Expr}(it:Addr)(lo:Int)(n:Nat):Turn P w K tg (IK lo n) [it] it (fun i h=>IsRangeIter h it (lo+(i:Nat)*1) ((n:Int)-(i:Nat)) 1) where
 mem:=by simp
 obj:=fun i h st b hb=>by
  have e:b=it:=by simpa using hb
  subst e;exact⟨_,st,fun v z=>by
   have z':Data.fields _=Data.cell v:=z
   cases z'⟩
 keep:=fun i h h' st k=>k it (by simp) _ st
 item:=by
  intro X hP hw hK hc i pins s σ H E I hf st hg;subst hP hw hK;obtain⟨f0,f1,f2,f3,f4,f5⟩:=hf it (by simp)
  have W:=Walks.range (prog:=X.prog) (w:=X.w) (I.ok.hd hc) it lo 1 n
  refine W.item i s _ _ hg st fun v h' tk hv gW kk=>?_
  obtain⟨t,rfl⟩:=hv
  have I1:Inv X pins σ H {s with heap:=h',toks:=tk}:=I.turned (fun b o hb e=>kk b o (by simpa using hb) e) f0 f1 f3 f4 f5
  refine⟨_,rfl,ug (s:={s with heap:=h',toks:=tk}) (n:="range_iterator") gW rfl rfl (by decide) ⟨.int (lo+i),H,I1,⟨t,?_⟩,⟨rfl,rfl⟩,gW,fun b hb=>(hf b hb).1⟩⟩
  rw [Int.mul_one]
 done:=by
  intro X hP hw hK hc i pins s σ H E I hf st hg;subst hP hw hK;obtain⟨f0,f1,f2,f3,f4,f5⟩:=hf it (by simp)
  exact wpAny_pyNext_range_end (I.ok.hd hc) st (by have:n≤i:=hg;omega) fun h' eb=>⟨rfl,I.turned (t':=s.toks) (fun b o hb e=>eb b o hb e) f0 f1 f3 f4 f5⟩
 self:=fun _ _ _ _ _ st h=>wpAny_pyIter_rangeiter st h
end L2
namespace L2
open PySem PySem.Spec PyProof.Rows
section
variable{X:Cx}{tg:Expr}
noncomputable def Hb(K:PySem.W.Frag)(tl:TE):TI:=fun σ H R=>tl σ H fun x H1=>∃a,x=.ref a∧(∃xs,gk K H1 a xs)∧R (K5 K a) H1
noncomputable def Le(K:PySem.W.Frag)(tl:TE):TI:=fun σ H R=>tl σ H fun x H1=>∃a,x=.ref a∧(∃xs,eJ K H1 a xs)∧R (Lk K a) H1
theorem sL{l:Expr}{tl:TE}(hl:PE X l tl):PI X tg l (Hb X.K tl):=by
 intro pins s σ H R I h;refine bR (hl pins s σ H _ I h) fun v s1 ⟨x,H1,I1,r1,q1⟩=>?_
 obtain⟨a,e,⟨xs,hq⟩,q⟩:=q1
 subst e;cases r1;obtain⟨aD,rv,p,hz⟩:=I1.list hq
 refine wpAny_pyIter_list p.isList ?_;refine⟨s1.heap.objs.size,[s1.heap.objs.size],_,_,H1,rfl,I1.kept (t':=s1.toks) fun b o e=>Heap.get?_push_of_some _ e,v9 a _,⟨_,Heap.get?_push_size _ rfl,rfl,rfl⟩,fun b hb=>?_,q⟩
 have e:b=s1.heap.objs.size:=by simpa using hb
 subst e;exact I1.fpOk (Nat.le_refl _) (I1.hok.fresh (Nat.le_refl _))
theorem D5{l:Expr}{tl:TE}(hl:PE X l tl):PI X tg l (Le X.K tl):=by
 intro pins s σ H R I h;refine bR (hl pins s σ H _ I h) fun v s1 ⟨x,H1,I1,r1,q1⟩=>?_
 obtain⟨a,e,⟨xs,hq⟩,q⟩:=q1
 subst e;cases r1;obtain⟨aD,rv,p,hz⟩:=I1.tuple hq
 refine wpAny_pyIter_tuple (show s1.heap.IsTuple a aD.toArray from p) ?_;refine⟨s1.heap.objs.size,[s1.heap.objs.size],_,_,H1,rfl,I1.kept (t':=s1.toks) fun b o e=>Heap.get?_push_of_some _ e,rj a _,⟨_,Heap.get?_push_size _ rfl,rfl,rfl⟩,fun b hb=>?_,q⟩
 have e:b=s1.heap.objs.size:=by simpa using hb
 subst e;exact I1.fpOk (Nat.le_refl _) (I1.hok.fresh (Nat.le_refl _))
theorem qr{pins:List (Addr×Obj)}{σ:St}{H:Hp}{s:Shared}{R:It→Hp→Prop}{E:Value→Shared→Prop}{lo hi:Int}{t u v:Tok}{tk:Nat}(I:Inv X pins σ H s)(h1: -(2^62)≤lo)(h2:lo<2^62)(h3: -(2^62)≤hi)(h4:hi<2^62)
 (q:R (IK lo (hi-lo).toNat) H):wpAny (model X.prog X.w) X.A (pyIter (.ref s.heap.objs.size)) (M4 X pins σ tg R) E {s with heap:=s.heap.push {cls:=.type "range",data:=.fields #[.int lo t,.int hi u,.int 1 v]},toks:=tk}:=by
 refine wpAny_pyIter_range (IsRange.new ..) (small_one h1 h2 h3 h4) ?_;have I1:Inv X pins σ H {s with heap:=s.heap.push {cls:=.type "range",data:=.fields #[.int lo t,.int hi u,.int 1 v]},toks:=tk}:=I.kept fun b o e=>Heap.get?_push_of_some _ e
 refine⟨(s.heap.push {cls:=.type "range",data:=.fields #[.int lo t,.int hi u,.int 1 v]}).objs.size,[(s.heap.push {cls:=.type "range",data:=.fields #[.int lo t,.int hi u,.int 1 v]}).objs.size],_,_,H,rfl,
  I1.kept (t':=tk) fun b o e=>Heap.get?_push_of_some _ e,qH _ lo (hi-lo).toNat,?_,fun b hb=>?_,q⟩
 ·have e1:lo+((0:Nat):Int)*1=lo:=by simp
  have e2:(((hi-lo).toNat:Nat):Int)-((0:Nat):Int)=Builtin.Range.rangeSize lo hi 1:=by rw [rangeSize_one];split<;>omega
  show IsRangeIter _ _ (lo+((0:Nat):Int)*1) ((((hi-lo).toNat:Nat):Int)-((0:Nat):Int)) 1
  rw [e1,e2];exact Heap.get?_push_size _ rfl
 ·have e:b=(s.heap.push {cls:=.type "range",data:=.fields #[.int lo t,.int hi u,.int 1 v]}).objs.size:=by simpa using hb
  subst e;exact I1.fpOk (Nat.le_refl _) (I1.hok.fresh (Nat.le_refl _))
def GK(ta:TA):TI:=fun σ H R=>ta σ H fun vs H1=>∃j:Int,vs=[.int j]∧ -(2^62)≤j∧j<2^62∧R (IK 0 j.toNat) H1
def HK(ta:TA):TI:=fun σ H R=>ta σ H fun vs H1=>∃i j:Int,vs=[.int i,.int j]∧(-(2^62)≤i∧i<2^62∧ -(2^62)≤j∧j<2^62)∧R (IK i (j-i).toNat) H1
theorem vJ{a:Expr}{ta:TA}{p pos:Pos}(hg:Gl X "range")(hm:X.mg "range"=none)(ha:PA X [a] ta)(hs:starEach [a] X.env=[(false,eval a X.env)]:=by rfl):PI X tg (.Call (.Name "range" p) [a] [] pos) (GK ta):=by
 intro pins s σ H R I h;refine Call_ (eU I hg hm boot_range (PyProof.Rows.callWith_type1 (bR (ha pos pins s σ H _ I h) fun us s1 ⟨vs,H1,I1,r1,q1⟩=>?_) hs rfl))
 obtain⟨j,e,q1,q2,q⟩:=q1
 subst e;cases r1 with
 |cons r rr=>
  cases rr;obtain⟨t,rfl⟩:=r
  exact call_range_1 (qr I1 (by omega) (by omega) q1 q2 (by simpa using q))
theorem vW{a b:Expr}{ta:TA}{p pos:Pos}(hg:Gl X "range")(hm:X.mg "range"=none)(ha:PA X [a,b] ta)(hs:starEach [a,b] X.env=[(false,eval a X.env),(false,eval b X.env)]:=by rfl)(uf:starEach [b] X.env=[(false,eval b X.env)]:=by rfl):
 PI X tg (.Call (.Name "range" p) [a,b] [] pos) (HK ta):=by
 intro pins s σ H R I h;refine Call_ (eU I hg hm boot_range (PyProof.Rows.callWith_type1 (bR (ha pos pins s σ H _ I h) fun us s1 ⟨vs,H1,I1,r1,q1⟩=>?_) (by rw [hs,uf]) (by rw [uf];rfl)))
 obtain⟨i,j,e,⟨q1,q2,q3,q4⟩,q⟩:=q1
 subst e;cases r1 with
 |cons r rr=>
  cases rr with
  |cons r' rr=>
   cases rr;obtain⟨t,rfl⟩:=r
   obtain⟨t',rfl⟩:=r'
   exact call_range_2 (qr I1 q1 q2 q3 q4 q)
noncomputable def LO(wi:TI)(g:TG)(tb:TS):TS:=fun D σ H=>wi σ H fun J H1=>∃W:Nat→Nat→St→Hp→Prop,(∃m,W 0 m σ H1)∧∀i m σ H,W i m σ H→
 (J.stop i H∧D.nx σ H)∨(J.go i H∧∃N:St→Hp→Prop,(∀σ' H',N σ' H'→∃m',m'<m∧W (i+1) m' σ' H')∧∀x H',J.yld i H x H'→g x σ H' fun σ2 H2=>tb {D with nx:=N,ct:=N,bk:=D.nx} σ2 H2)
def nF(fp:List Addr)(h:Heap):List (Addr×Obj):=fp.filterMap fun b=>(h.get? b).map fun o=>(b,o)
theorem c8{fp:List Addr}{h:Heap}{b:Addr}{o:Obj}(hb:b∈fp)(e:h.get? b=some o):(b,o)∈nF fp h:=List.mem_filterMap.mpr ⟨b,hb,by rw [e];rfl⟩
theorem uI{fp:List Addr}{h:Heap}{p:Addr×Obj}(hp:p∈nF fp h):p.1∈fp∧h.get? p.1=some p.2:=by
 obtain⟨b,hb,e⟩:=List.mem_filterMap.mp hp
 cases q:h.get? b with
 |none=>rw [q] at e;cases e
 |some o=>
  rw [q] at e;have e':(b,o)=p:=Option.some.inj e
  subst e';exact⟨hb,q⟩
theorem Inv.pinned{pins:List (Addr×Obj)}{σ:St}{H:Hp}{s:Shared}{fp:List Addr}(I:Inv X pins σ H s)(hf:∀b∈fp,eo X pins H b)(ho:∀b∈fp,∃o,s.heap.get? b=some o∧∀v,o.data≠.cell v):Inv X (pins++nF fp s.heap) σ H s:=
 I.pins_of fun p hp=>(List.mem_append.mp hp).elim (fun z=>I.pin p (List.mem_append_right _ z)) fun z=>by
  obtain⟨hb,e⟩:=uI z
  obtain⟨f0,f1,f2,_⟩:=hf p.1 hb
  obtain⟨o,e',d⟩:=ho p.1 hb
  rw [e] at e';cases e';exact⟨e,f0,f1,f2,d⟩
theorem Inv.unpinned{pins pl:List (Addr×Obj)}{σ:St}{H:Hp}{s:Shared}(I:Inv X (pins++pl) σ H s):Inv X pins σ H s:=I.pins_of fun p hp=>I.pin p (List.mem_append_right _ (List.mem_append_left _ hp))
theorem Fx{iter:Expr}{body:List Stmt}{wi:TI}{g:TG}{tb:TS}{pos:Pos}(hp:PassesOwn (model X.prog X.w) X.A X.env X.xe)(hc:X.calm=true)(hi:PI X tg iter wi)(hg:PG X tg g)(hb:PSs X body tb)
 (hs:∀x,foldedSetIterable iter X.env x=pure x:=by intro _;rfl):PS X (.For tg iter body [] pos) (LO wi g tb):=by
 intro pins s σ H D I h;refine wpAny_For (bR (hi pins s σ H _ I h) fun v s1 h1=>bR h1 fun J9 s2 h2=>?_) hs
 obtain⟨it,fp,tn,J,H2,e,I2,T,II,f2,W,⟨m0,w0⟩,turn⟩:=h2
 subst e;have Fp:∀{H':Hp},(∀b∈fp,H' b=none)→∀b∈fp,eo X pins H' b:=fun hn b hb=>⟨hn b hb,(f2 b hb).2⟩
 refine codeAny_forLoop_any (fun n s'=>∃i σ' H',Inv X pins σ' H' s'∧tn i s'.heap∧(∀b∈fp,H' b=none)∧W i n σ' H') ?_ m0 ⟨0,σ,H2,I2,II,fun b hb=>(f2 b hb).1,w0⟩
 rintro n s3 ⟨i,σ3,H3,I3,st3,fr3,w3⟩
 rcases turn i n σ3 H3 w3 with⟨stop,qn⟩|⟨go,N,hN,step⟩
 ·refine wpAny_passesOwn hp (bR (T.done X rfl rfl rfl hc i pins s3 σ3 H3 X.xe I3 (Fp fr3) st3 stop) fun r s4 ⟨hr,I4⟩=>?_)
  subst hr;exact wpAny_execs_nil ⟨σ3,H3,I4,qn⟩
 ·refine wpAny_passesOwn hp (bR (T.item X rfl rfl rfl hc i pins s3 σ3 H3 X.xe I3 (Fp fr3) st3 go) fun r s4 ⟨u,hr,h4⟩=>?_)
  subst hr;refine wpAny_passesOwn hp (bR h4 fun _ s5 ⟨x,H5,I5,r5,y5,st5,fr5⟩=>?_);have JP:=I5.pinned (Fp fr5) (T.obj _ _ st5)
  refine wpAny_passesOwn hp (bR (hg _ s5 σ3 H5 x u _ JP r5 (step x H5 y5)) fun _ s6 ⟨σ6,H6,I6,q6⟩=>?_)
  refine wpAny_passesOwn hp (bR (hb _ s6 σ6 H6 _ I6 q6) fun f s7 q7=>?_)
  have again:∀{σ7:St} {H7:Hp},Inv X (pins++nF fp s5.heap) σ7 H7 s7→N σ7 H7→∃m,m<n∧∃i σ' H',Inv X pins σ' H' s7∧tn i s7.heap∧(∀b∈fp,H' b=none)∧W i m σ' H':=fun{σ7 H7} I7 n7=>by
   obtain⟨m',hm,w7⟩:=hN σ7 H7 n7
   refine⟨m',hm,i+1,σ7,H7,I7.unpinned,T.keep _ _ _ st5 fun b hb o e=>(I7.pin (b,o) (List.mem_append_right _ (List.mem_append_right _ (c8 hb e)))).1,fun b hb=>?_,w7⟩
   obtain⟨o,e,d⟩:=T.obj _ _ st5 b hb
   exact(I7.pin (b,o) (List.mem_append_right _ (List.mem_append_right _ (c8 hb e)))).2.1
  cases f with
  |next=>obtain⟨σ7,H7,I7,n7⟩:=q7;exact again I7 n7
  |cont=>obtain⟨σ7,H7,I7,n7⟩:=q7;exact again I7 n7
  |brk=>obtain⟨σ7,H7,I7,q7⟩:=q7;exact⟨σ7,H7,I7.unpinned,q7⟩
  |ret v=>obtain⟨x7,σ7,H7,I7,r7,q7⟩:=q7;exact⟨x7,σ7,H7,I7.unpinned,r7,q7⟩
end
end L2
namespace L2
open PySem PySem.Spec PyProof.Rows
abbrev R2:=V→V→Hp→VK→Prop
def gj(X:Cx)(f:Value→Value→Sem Value)(r:R2):Prop:=
 ∀(pins:List (Addr×Obj)) (s:Shared) (σ:St) (H:Hp) (x y:V) (v u:Value) (Q:VK),Inv X pins σ H s→RelV x v→RelV y u→r x y H Q→
  wpAny (model X.prog X.w) X.A (f v u) (EP X pins σ Q) X.xe s
def Jq(X:Cx)(f:Value→Sem Value)(r:V→Hp→VK→Prop):Prop:=
 ∀(pins:List (Addr×Obj)) (s:Shared) (σ:St) (H:Hp) (x:V) (v:Value) (Q:VK),Inv X pins σ H s→RelV x v→r x H Q→
  wpAny (model X.prog X.w) X.A (f v) (EP X pins σ Q) X.xe s
def cT(X:Cx)(f:Value)(r:List V→Hp→VK→Prop):Prop:=
 ∀(pins:List (Addr×Obj)) (s:Shared) (σ:St) (H:Hp) (xs:List V) (us:List Value) (Q:VK),Inv X pins σ H s→Vals xs us→r xs H Q→
  wpAny (model X.prog X.w) X.A (call f us) (EP X pins σ Q) X.xe s
noncomputable def Gz(r:R2)(ta tb:TE):TE:=fun σ H Q=>ta σ H fun x H1=>tb σ H1 fun y H2=>r x y H2 Q
def Of(r:V→Hp→VK→Prop)(ta:TE):TE:=fun σ H Q=>ta σ H fun x H1=>r x H1 Q
noncomputable def rI(C:Int→Int→Prop)(g:Int→Int→V):R2:=fun x y H Q=>∃i j,x=.int i∧y=.int j∧C i j∧Q (g i j) H
noncomputable def Fv(g:Int→Int→V):R2:=fun x y H Q=>∃i j,x=.int i∧y=.int j∧Q (g i j) H
def rU(g:Int→V):V→Hp→VK→Prop:=fun x H Q=>∃i,x=.int i∧Q (g i) H
section
variable{X:Cx}{a b c:Expr}{ta tb tc:TE}{pos:Pos}
theorem Ep(ha:PE X a ta)(hb:PE X b tb){pins:List (Addr×Obj)}{s:Shared}{σ:St}{H:Hp}{R:V→V→Hp→Prop}(I:Inv X pins σ H s)
 (h:ta σ H fun x H1=>tb σ H1 fun y H2=>R x y H2) {Q:Value→Shared→Prop} {f:Value→Value→Sem Value}
 (hf:∀v u s2 x y H2,Inv X pins σ H2 s2→RelV x v→RelV y u→R x y H2→wpAny (model X.prog X.w) X.A (f v u) Q X.xe s2):
 wpAny (model X.prog X.w) X.A (eval a X.env) (fun v s₁=>wpAny (model X.prog X.w) X.A (eval b X.env) (fun u s₂=>wpAny (model X.prog X.w) X.A (f v u) Q X.xe s₂) X.xe s₁) X.xe s:=by
 refine bR (ha pins s σ H _ I h) fun v s1 ⟨x,H1,I1,r1,q1⟩=>?_
 refine bR (hb pins s1 σ H1 _ I1 q1) fun u s2 ⟨y,H2,I2,r2,q2⟩=>?_
 exact hf v u s2 x y H2 I2 r1 r2 q2
theorem Ip{op:Operator}{r:R2}(ho:gj X (binaryOp op) r)(ha:PE X a ta)(hb:PE X b tb):PE X (.BinOp a op b pos) (Gz r ta tb):=by
 intro pins s σ H Q I h;exact wpAny_BinOp (Ep ha hb I h fun v u s2 x y H2 I2 rx ry q=>ho pins s2 σ H2 x y v u Q I2 rx ry q)
theorem IC{op:UnaryOp}{r:V→Hp→VK→Prop}(ho:Jq X (unaryOp op) r)(ha:PE X a ta):PE X (.UnaryOp op a pos) (Of r ta):=by
 intro pins s σ H Q I h;exact UnaryOp_ (bR (ha pins s σ H _ I h) fun v s1 ⟨x,H1,I1,r1,q1⟩=>ho pins s1 σ H1 x v Q I1 r1 q1)
theorem KY{f:Value→Value→Sem Value}{C:Int→Int→Prop}{g:Int→Int→Int}
 (rule:∀(i j:Int) (t u:Tok) (s:Shared) (Q:Value→Shared→Prop) (E:Value→Shared→Prop),C i j→Q (.int (g i j) s.toks) {s with toks:=s.toks+1}→wpAny (model X.prog X.w) X.A (f (.int i t) (.int j u)) Q E s):
 gj X f (rI C fun i j=>.int (g i j)):=by
 intro pins s σ H x y v u Q I rx ry h;obtain⟨i,j,rfl,rfl,hc,q⟩:=h
 obtain⟨t,rfl⟩:=rx
 obtain⟨t',rfl⟩:=ry
 exact rule i j t t' s _ _ hc ⟨.int (g i j),H,I.tok _,⟨_,rfl⟩,q⟩
theorem IL{f:Value→Value→Sem Value}{g:Int→Int→Int}
 (rule:∀(i j:Int) (t u:Tok) (s:Shared) (Q:Value→Shared→Prop) (E:Value→Shared→Prop),Q (.int (g i j) s.toks) {s with toks:=s.toks+1}→wpAny (model X.prog X.w) X.A (f (.int i t) (.int j u)) Q E s):
 gj X f (Fv fun i j=>.int (g i j)):=by
 intro pins s σ H x y v u Q I rx ry h;obtain⟨i,j,rfl,rfl,q⟩:=h
 obtain⟨t,rfl⟩:=rx
 obtain⟨t',rfl⟩:=ry
 exact rule i j t t' s _ _ ⟨.int (g i j),H,I.tok _,⟨_,rfl⟩,q⟩
theorem E4{f:Value→Value→Sem Value}{g:Int→Int→Bool}
 (rule:∀(i j:Int) (t u:Tok) (s:Shared) (Q:Value→Shared→Prop) (E:Value→Shared→Prop),Q (.bool (g i j)) s→wpAny (model X.prog X.w) X.A (f (.int i t) (.int j u)) Q E s):
 gj X f (Fv fun i j=>.bl (g i j)):=by
 intro pins s σ H x y v u Q I rx ry h;obtain⟨i,j,rfl,rfl,q⟩:=h
 obtain⟨t,rfl⟩:=rx
 obtain⟨t',rfl⟩:=ry
 exact rule i j t t' s _ _ ⟨.bl (g i j),H,I,rfl,q⟩
def LF(i j:Int):Prop:=0<j∧j<1073741824
def Eb(i j:Int):Prop:=(-(2^64)<i∧i<2^64)∨(-(2^64)<j∧j<2^64)
theorem Eb.ok{i j:Int}(h:Eb i j):IntMulOk i j:=by
 rcases h with⟨h1,h2⟩|⟨h1,h2⟩
 ·exact .of_left (intBits_le_64 h1 h2)
 ·exact .of_right (intBits_le_64 h1 h2)
theorem Dw:gj X (binaryOp .Add) (Fv fun i j=>.int (i+j)):=IL fun _ _ _ _ _ _ _ q=>add_int q
theorem EY:gj X (binaryOp .Sub) (Fv fun i j=>.int (i-j)):=IL fun _ _ _ _ _ _ _ q=>sub_int q
theorem EI:gj X (binaryOp .Mult) (rI Eb fun i j=>.int (i*j)):=KY fun _ _ _ _ _ _ _ hc q=>mul_int q hc.ok
theorem Bt:gj X (binaryOp .FloorDiv) (rI LF fun i j=>.int (i/j)):=KY fun i j _ _ _ _ _ hc q=>by
 have h1:(0:Int)<j:=hc.1
 have h2:j<1073741824:=hc.2
 exact floordiv_int (by omega) (by rw [Int.fdiv_eq_ediv_of_nonneg i (by omega)];exact q) (.inl (PyProof.noPylong_small (by omega)))
theorem FG:gj X (binaryOp .Mod) (rI (fun _ j=>0<j) fun i j=>.int (i%j)):=KY fun i j _ _ _ _ _ hc q=>by
 have h1:(0:Int)<j:=hc
 exact mod_int' (by omega) (by rw [Int.fmod_eq_emod_of_nonneg i (by omega)];exact q)
theorem ND{f:Value→Sem Value}{g:Int→Int}
 (rule:∀(i:Int) (t:Tok) (s:Shared) (Q:Value→Shared→Prop) (E:Value→Shared→Prop),Q (.int (g i) s.toks) {s with toks:=s.toks+1}→wpAny (model X.prog X.w) X.A (f (.int i t)) Q E s):
 Jq X f (rU fun i=>.int (g i)):=by
 intro pins s σ H x v Q I rx h;obtain⟨i,rfl,q⟩:=h
 obtain⟨t,rfl⟩:=rx
 exact rule i t s _ _ ⟨.int (g i),H,I.tok _,⟨_,rfl⟩,q⟩
theorem Fj:Jq X (unaryOp .USub) (rU fun i=>.int (-i)):=ND fun _ _ _ _ _ q=>neg_int q
end
section
variable{X:Cx}{a b c:Expr}{ta tb tc:TE}{pos:Pos}
theorem w9{pins:List (Addr×Obj)}{σ:St}{H:Hp}{s:Shared}{Q:VK}{k k':Bool}(I:Inv X pins σ H s)(q:Q (.bl k) H)(e:k=k'):EP X pins σ Q (.bool k') s:=by
 subst e;exact⟨.bl k,H,I,rfl,q⟩
theorem Hi:gj X (compareOp .Lt) (Fv fun i j=>.bl (decide (i<j))):=E4 fun _ _ _ _ _ _ _ q=>lt_int q
theorem HN:gj X (compareOp .LtE) (Fv fun i j=>.bl (decide (i≤j))):=E4 fun _ _ _ _ _ _ _ q=>le_int q
theorem IS:gj X (compareOp .Gt) (Fv fun i j=>.bl (decide (j<i))):=E4 fun _ _ _ _ _ _ _ q=>gt_int q
theorem FQ:gj X (compareOp .Is) (fun x y H Q=>y=.non∧Q (.bl (decide (x=.non))) H):=by
 intro pins s σ H x y v u Q I rx ry h;obtain⟨rfl,q⟩:=h
 cases ry;refine is_none_gen (w9 I q ?_);cases x<;>first
  |(cases rx;rfl)
  |(obtain⟨t,rfl⟩:=rx;rfl)
theorem Bc:gj X (compareOp .IsNot) (fun x y H Q=>y=.non∧Q (.bl (!decide (x=.non))) H):=by
 intro pins s σ H x y v u Q I rx ry h;obtain⟨rfl,q⟩:=h
 cases ry;refine isnot_none_gen (w9 I q ?_);cases x<;>first
  |(cases rx;rfl)
  |(obtain⟨t,rfl⟩:=rx;rfl)
theorem K3(b:Expr){op:CmpOp}(h:op≠.In:=by decide)(h2:op≠.NotIn:=by decide):behindInMarks op b=false:=by
 have e1:(op==CmpOp.In)=false:=by cases op<;>first|rfl|exact absurd rfl h
 have e2:(op==CmpOp.NotIn)=false:=by cases op<;>first|rfl|exact absurd rfl h2
 cases b<;>simp [behindInMarks,e1,e2]
theorem By{op:CmpOp}{r:R2}(ho:gj X (compareOp op) r)(ha:PE X a ta)(hb:PE X b tb)(hm:behindInMarks op b=false):PE X (.Compare a [op] [b] pos) (Gz r ta tb):=by
 intro pins s σ H Q I h;exact wpAny_Compare1 (Ep ha hb I h fun v u s2 x y H2 I2 rx ry q=>ho pins s2 σ H2 x y v u Q I2 rx ry q) hm
def xg(t:TE):TT:=fun σ H Q=>t σ H fun x H'=>∃k,x=.bl k∧Q k H'
theorem B6{op:CmpOp}{r:R2}(ho:gj X (compareOp op) r)(ha:PE X a ta)(hb:PE X b tb)(hm:behindInMarks op b=false):PT X (.Compare a [op] [b] pos) (xg (Gz r ta tb)):=by
 intro pins s σ H Q I h;refine wpAny_isTrue_Compare1 (bR (ha pins s σ H _ I h) fun v s1 ⟨x,H1,I1,r1,q1⟩=>bR (hb pins s1 σ H1 _ I1 q1) fun u s2 ⟨y,H2,I2,r2,q2⟩=>
  bR (ho pins s2 σ H2 x y v u _ I2 r1 r2 q2) fun c s3 ⟨z,H3,I3,r3,k,e,q3⟩=>?_) hm
 subst e;cases r3;exact wpAny_truthy_bool ⟨H3,I3,q3⟩
noncomputable def qN(r r':R2)(ta tb tc:TE):TE:=fun σ H Q=>ta σ H fun x H1=>tb σ H1 fun y H2=>r x y H2 fun z H3=>∃k,z=.bl k∧
 (if k=true then tc σ H3 fun w' H4=>r' y w' H4 Q else Q (.bl false) H3)
theorem wL{op Ff:CmpOp}{r r':R2}(ho:gj X (compareOp op) r)(eN:gj X (compareOp Ff) r')(ha:PE X a ta)(hb:PE X b tb)(hc:PE X c tc)
 (hm:lastMarks [op,Ff] [b,c]=false:=by with_unfolding_all rfl):PE X (.Compare a [op,Ff] [b,c] pos) (qN r r' ta tb tc):=by
 intro pins s σ H Q I h;refine Compare_chain (bR (ha pins s σ H _ I h) fun v s1 ⟨x,H1,I1,r1,q1⟩=>chain_link (bR (hb pins s1 σ H1 _ I1 q1) fun u s2 ⟨y,H2,I2,r2,q2⟩=>
  bR (ho pins s2 σ H2 x y v u _ I2 r1 r2 q2) fun d s3 ⟨z,H3,I3,r3,k,e,q3⟩=>?_)) hm
 subst e;cases r3;refine wpAny_truthy_bool ?_;cases k with
 |false=>exact ite_ff ⟨.bl false,H3,I3,rfl,q3⟩
 |true=>exact ite_tt (chain_last (bR (hc pins s3 σ H3 _ I3 q3) fun w' s4 ⟨z',H4,I4,r4,q4⟩=>eN pins s4 σ H4 y z' u w' Q I4 r2 r4 q4))
theorem zm{op Ff:CmpOp}{r r':R2}(ho:gj X (compareOp op) r)(eN:gj X (compareOp Ff) r')(ha:PE X a ta)(hb:PE X b tb)(hc:PE X c tc)
 (hm:lastMarks [op,Ff] [b,c]=false:=by with_unfolding_all rfl):PT X (.Compare a [op,Ff] [b,c] pos) (xg (qN r r' ta tb tc)):=by
 intro pins s σ H Q I h;refine isTrue_chain (bR (ha pins s σ H _ I h) fun v s1 ⟨x,H1,I1,r1,q1⟩=>test_link (bR (hb pins s1 σ H1 _ I1 q1) fun u s2 ⟨y,H2,I2,r2,q2⟩=>
  bR (ho pins s2 σ H2 x y v u _ I2 r1 r2 q2) fun d s3 ⟨z,H3,I3,r3,k,e,q3⟩=>?_)) hm
 subst e;cases r3;refine wpAny_truthy_bool ?_;cases k with
 |false=>
  obtain⟨k',e',q'⟩:=q3
  cases e';exact ite_ff ⟨H3,I3,q'⟩
 |true=>
  refine ite_tt (test_last (bR (hc pins s3 σ H3 _ I3 q3) fun w' s4 ⟨z',H4,I4,r4,q4⟩=>bR (eN pins s4 σ H4 y z' u w' _ I4 r2 r4 q4) fun d' s5 ⟨z2,H5,I5,r5,k2,e2,q5⟩=>?_))
  subst e2;cases r5;exact wpAny_truthy_bool ⟨H5,I5,q5⟩
theorem kP:(sizeLine:Nat)<2^63:=by rw [sizeLine_eq];decide
theorem rR:gj X (binaryOp .Add) (fun x y H Q=>∃i j,x=.str i∧y=.str j∧i.length+j.length≤sizeLine∧Q (.str (i++j)) H):=by
 intro pins s σ H x y v u Q I rx ry h;obtain⟨i,j,rfl,rfl,hz,q⟩:=h
 obtain⟨t,rfl⟩:=rx
 obtain⟨t',rfl⟩:=ry
 exact add_str (fun t' tk=>⟨.str (i++j),H,I.tok _,⟨_,rfl⟩,q⟩) hz
theorem vals1{x:V}{us:List Value}(r:Vals [x] us):∃u,us=[u]∧RelV x u:=by
 cases r with
 |cons r1 r2=>cases r2;exact⟨_,rfl,r1⟩
theorem vals2{x y:V}{us:List Value}(r:Vals [x,y] us):∃u w',us=[u,w']∧RelV x u∧RelV y w':=by
 cases r with
 |cons r1 r2=>
  cases r2 with
  |cons r3 r4=>cases r4;exact⟨_,_,rfl,r1,r3⟩
theorem xq:cT X (.builtin "abs") (fun xs H Q=>∃i,xs=[.int i]∧Q (.int (if i<0 then -i else i)) H):=by
 intro pins s σ H xs us Q I r h;obtain⟨i,rfl,q⟩:=h
 obtain⟨u,rfl,t,rfl⟩:=vals1 r
 exact call_abs_int fun u tk=>⟨.int (if i<0 then -i else i),H,I.tok _,⟨_,rfl⟩,q⟩
theorem vQ(hc:X.calm=true):cT X (.builtin "max") (fun xs H Q=>∃i j,xs=[.int i,.int j]∧Q (.int (if j>i then j else i)) H):=by
 intro pins s σ H xs us Q I r h;obtain⟨i,j,rfl,q⟩:=h
 obtain⟨u,w',rfl,⟨t,rfl⟩,⟨t',rfl⟩⟩:=vals2 r
 refine max_two_ints (I.ok.hd hc) fun h' tk k=>⟨_,H,I.kept k,?_,q⟩
 by_cases hj:j>i
 ·rw [if_pos hj,if_pos hj];exact⟨_,rfl⟩
 ·rw [if_neg hj,if_neg hj];exact⟨_,rfl⟩
theorem mR:cT X (.type "str") (fun xs H Q=>∃i,xs=[.int i]∧i.natAbs.log2<1920∧Q (.str (toString i)) H):=by
 intro pins s σ H xs us Q I r h;obtain⟨i,rfl,hz,q⟩:=h
 obtain⟨u,rfl,t,rfl⟩:=vals1 r
 exact PySem.P.str_of_int hz ⟨.str _,H,I.tok _,⟨_,rfl⟩,q⟩
end
end L2
namespace L2
open PySem PySem.Spec PyProof.Rows
section
variable{prog:Program}{w:World}{A:Around}{E:Value→Shared→Prop}{s:Shared}{K:PySem.W.Frag}{x dx C f:Addr}{mA:Str→Option Value}{name:Str}{v:Value}
end
theorem i4.some_of{v:V}{o:Option Value}(r:i4 (some v) o):∃u,o=some u∧RelV v u:=by
 cases o with
 |none=>exact(show False from r).elim
 |some u=>exact⟨u,rfl,r⟩
section
variable{P:Program}{w:World}{H H':Hp}{h h':Heap}{a C dx:Addr}{fs JO:List (Str×V)}
end
section
variable{X:Cx}{pins:List (Addr×Obj)}{σ:St}{H:Hp}{s:Shared}{a C dx:Addr}{fs:List (Str×V)}{f:Str}{v:V}{A:Around}{E:Value→Shared→Prop}
end
section
variable{X:Cx}{o e value:Expr}{f:Str}{pos pos' jx:Pos}{ta tv:TE}
end
section
variable{X:Cx}{pins:List (Addr×Obj)}{σ:St}{H:Hp}{s:Shared}{A:Around}{E:Value→Shared→Prop}{Q:Value→Shared→Prop}{c:Value}{b:Bool}
end
end L2
namespace L2
open PySem PySem.Spec PyProof.Rows
structure di(k:Nat)(A:Around):Prop where
 hd:A.handled=none
 dp:A.depth+3*k+5<recursionLimit
 un:A.units+16*k+200<cLine
theorem di.mono{j k:Nat}{A:Around}(r:di k A)(h:j≤k):di j A:=⟨r.hd,by have:=r.dp;omega,by have:=r.un;omega⟩
theorem di.deeper{k:Nat}{A:Around}(r:di (k+1) A)(env:Env):di k (A.deeper env):=
 ⟨r.hd,by have:=r.dp;show A.depth+1+3*k+5<_;omega,by have:=r.un;show A.units+3+16*k+200<_;omega⟩
theorem di.in1{k:Nat}{A:Around}(r:di (k+1) A):di k A.in1:=
 ⟨r.hd,by have:=r.dp;show A.depth+3*k+5<_;omega,by have:=r.un;show A.units+1+16*k+200<_;omega⟩
theorem di.depth{k:Nat}{A:Around}(r:di k A):A.depth<recursionLimit:=by have:=r.dp;omega
theorem di.units{k:Nat}{A:Around}(r:di k A):A.units+64<cLine:=by have:=r.un;omega
def Li:TA:=fun _ H Q=>Q [] H
def GR(ta:TE)(tr:TA):TA:=fun σ H Q=>ta σ H fun x H1=>tr σ H1 fun xs H2=>Q (x::xs) H2
section
variable{X:Cx}{e:Expr}{es:List Expr}{te:TE}{t:TA}{pos:Pos}
theorem d7:PA X [] Li:=fun _ _ _ _ H Q I h=>Calls.spliced_nil ⟨[],H,I,.nil,h⟩
theorem cI(ha:PE X e te)(hr:PA X es t)(hs:starEach (e::es) X.env=(false,eval e X.env)::starEach es X.env:=by rfl):PA X (e::es) (GR te t):=by
 intro pos pins s σ H Q I h;rw [hs];show wpAny _ _ (spliced ((false,eval e X.env)::backTo pos (starEach es X.env))) _ _ s;refine Calls.spliced_cons (bR (ha pins s σ H _ I h) fun u s1 ⟨x,H1,I1,r1,q1⟩=>?_)
 exact bR (hr pos pins s1 σ H1 _ I1 q1) fun us s2 ⟨xs,H2,I2,r2,q2⟩=>⟨x::xs,H2,I2,.cons r1 r2,q2⟩
def Lc(t:TA):TE:=fun σ H Q=>t σ H fun xs H1=>xs.length≤sizeLine∧∀p,H1 p=none→Q (.ref p) (upd H1 p (.tup xs))
def K7(t:TA):TE:=fun σ H Q=>t σ H fun xs H1=>xs.length≤sizeLine∧∀p,H1 p=none→Q (.ref p) (upd H1 p (.lst xs))
theorem EZ{x1}(h:PA X es t):PE X (.Tuple es x1 pos) (Lc t):=by
 intro pins s σ H Q I hq;refine wpAny_Tuple_spliced (bR (h pos pins s σ H _ I hq) fun us s1 ⟨xs,H1,I1,r,z,q⟩=>⟨by rw [←r.length];exact z,?_⟩)
 have hf:H1 s1.heap.objs.size=none:=I1.hok.fresh (Nat.le_refl _)
 refine⟨.ref s1.heap.objs.size,upd H1 s1.heap.objs.size (.tup xs),I1.laid (t':=s1.toks) (fun b u e=>Heap.get?_push_of_some _ e) (Nat.le_refl _) ?_,rfl,q _ hf⟩;exact⟨z,us,r,⟨_,Heap.get?_push_size _ rfl,rfl,_,rfl⟩⟩
theorem ET(h:PA X es t):PE X (.List es pos) (K7 t):=by
 intro pins s σ H Q I hq;refine wpAny_List_spliced (bR (h pos pins s σ H _ I hq) fun us s1 ⟨xs,H1,I1,r,z,q⟩=>⟨by rw [←r.length];exact z,?_⟩)
 have hf:H1 s1.heap.objs.size=none:=I1.hok.fresh (Nat.le_refl _)
 refine⟨.ref s1.heap.objs.size,upd H1 s1.heap.objs.size (.lst xs),I1.laid (t':=s1.toks) (fun b u e=>Heap.get?_push_of_some _ e) (Nat.le_refl _) ?_,rfl,q _ hf⟩;exact⟨z,us,0,r,Heap.get?_push_size _ rfl⟩
end
abbrev Sp:=List V→Hp→VK→XK→Prop
abbrev qE:=List Env→Hp→Shared→XK→Value→Shared→Prop
structure gY(P:Program)(w:World)(K:PySem.W.Frag)(mg:Str→Option Value)(base:Heap)(A:Around)(outer:List Env)(s:Shared)(H:Hp):Prop where
 frames:A.frames=some outer
 mod:Mod K mg base
 bs:∀b o,base.get? b=some o→s.heap.get? b=some o∧H b=none
 bsz:base.objs.size≤s.heap.objs.size
 funs:s.heap.FunFrames base outer
 frf:∀b∈dZ outer,H b=none
 hok:dG P w H s.heap
 bare:AllBare s.gens
def CE(outer:List Env)(P:Program)(w:World)(H:Hp)(s:Shared)(Q:VK)(u:Value)(s':Shared):Prop:=
 ∃v H',s'.os=s.os∧AllBare s'.gens∧Un (dZ outer) [] H H' s.heap s'.heap∧dG P w H' s'.heap∧RelV v u∧Q v H'
def CR(CX:qE)(outer:List Env)(P:Program)(w:World)(H:Hp)(s:Shared)(Q:VK)(E:XK)(r:Result)(s':Shared):Prop:=
 match r with
 |.ok (.ret u)=>CE outer P w H s Q u s'
 |.ok _=>False
 |.error e=>CX outer H s E e s'
structure fD(P:Program)(w:World)(K:PySem.W.Frag)(mg:Str→Option Value)(base:Heap)(CX:qE)(k:Nat)(f:Addr)(fd:FuncData)(ps:List Str)(sp:Sp):Prop where
 len:∀vs H Q E,sp vs H Q E→vs.length=ps.length
 run:∀(A:Around) (outer:List Env) (s:Shared) (H:Hp) (args:Args) (us:List Value) (vs:List V) (Q:VK) (E:XK),di k A→gY P w K mg base A outer s H→BindsTo s fd args (ps.zip us)→Vals vs us→sp vs H Q E→
  codeAny (model P w) A (.call (.ref f) args) (CR CX outer P w H s Q E) s
theorem fD.mono{P:Program}{w:World}{K:PySem.W.Frag}{mg:Str→Option Value}{base:Heap}{CX:qE}{j k:Nat}{f:Addr}{fd:FuncData}{ps:List Str}{sp:Sp}(F:fD P w K mg base CX j f fd ps sp)(h:j≤k):
 fD P w K mg base CX k f fd ps sp:=⟨F.len,fun A outer s H args us vs Q E hr=>F.run A outer s H args us vs Q E (hr.mono h)⟩
theorem fD.imp{P:Program}{w:World}{K:PySem.W.Frag}{mg:Str→Option Value}{base:Heap}{CX:qE}{k:Nat}{f:Addr}{fd:FuncData}{ps:List Str}{sp Mc:Sp}(F:fD P w K mg base CX k f fd ps sp)
 (h:∀vs H Q E,Mc vs H Q E→sp vs H Q E):fD P w K mg base CX k f fd ps Mc:=
 ⟨fun vs H Q E q=>F.len vs H Q E (h _ _ _ _ q),fun A outer s H args us vs Q E hr he hb hv hs=>F.run A outer s H args us vs Q E hr he hb hv (h _ _ _ _ hs)⟩
theorem gY.in1{P:Program}{w:World}{K:PySem.W.Frag}{mg:Str→Option Value}{base:Heap}{A:Around}{outer:List Env}{s:Shared}{H:Hp}(e:gY P w K mg base A outer s H):
 gY P w K mg base A.in1 outer s H:=⟨e.frames,e.mod,e.bs,e.bsz,e.funs,e.frf,e.hok,e.bare⟩
section
variable{X:Cx}{pins:List (Addr×Obj)}{σ:St}{H:Hp}{s s':Shared}
theorem Inv.env0(I:Inv X pins σ H s):gY X.prog X.w X.K X.mg X.base X.A X.stack s H:=
 ⟨I.ok.frames,I.ok.mod,I.bs,Nat.le_trans I.ok.bsz I.sz,I.stack,I.stkFree,I.hok,I.bare⟩
theorem Inv.after{Q:VK}{u:Value}(I:Inv X pins σ H s)(h:CE X.stack X.prog X.w H s Q u s'):EP X pins σ Q u s':=by
 obtain⟨v,H',os,bare,un,hok,r,q⟩:=h
 obtain⟨hh,g,d,t,os'⟩:=s'
 obtain rfl:os'=s.os:=os
 exact⟨v,H',I.call (h':=hh) (g':=g) (d':=d) (t':=t) (ch:=[]) un hok bare (fun b z=>absurd z (by simp)),r,q⟩
end
def Binds(K:PySem.W.Frag)(fd:FuncData)(ps:List Str)(ds:List Value):Prop:=
 ∀(s:Shared) (us:List Value),K.In s.heap→(us++ds).length=ps.length→BindsTo s fd ⟨us,[]⟩ (ps.zip (us++ds))
theorem Binds.all{K:PySem.W.Frag}{fd:FuncData}{ps:List Str}(h:∀us:List Value,us.length=ps.length→bindArgs fd ⟨us,[]⟩=pure (ps.zip us)):Binds K fd ps []:=fun s us _ hl=>by
 rw [List.append_nil] at hl⊢;exact .of_eq (h us hl)
def Passes(CX:qE)(X:Cx)(E:XK):Prop:=∀(pins:List (Addr×Obj)) (σ:St) (H:Hp) (s:Shared) (e:Value) (s':Shared),Inv X pins σ H s→CX X.stack H s E e s'→X.xe e s'
section
variable{X:Cx}{CX:qE}{k:Nat}{f C:Addr}{fd:FuncData}{ps:List Str}{sp:Sp}{N9:List V}{ds:List Value}{E:XK}{x m:Str}{p pos apos:Pos}{e o:Expr}{es:List Expr}{ta:TE}{t:TA}
end
section
variable{X:Cx}{CX:qE}{k:Nat}{f C:Addr}{fd:FuncData}{ps ks:List Str}{sp:Sp}{E:XK}{x m:Str}{p pos apos JM:Pos}{e o:Expr}{es:List Expr}{kI:List Keyword}{te ta:TE}{t tk:TA}{nm:Option Str}
variable{g:List Value→List Value→List Value}{gV:List V→List V→List V}
end
structure jf(N P:List Str)(sc:Scope):Prop where
 kind:sc.kind=.function
 co:sc.isCoroutine=false
 gen:sc.isGenerator=false
 nd:N.Nodup
 pre:N.take P.length=P
 par:∀x∈P,sc.names.lookup x=some .local∨sc.names.lookup x=some .cell
 nofree:∀y∈sc.names,y.2≠.free
theorem lX{kindOf:Str→Option NameKind}{x:Str}:∀{binds:List (Str×Value)} {m:Str→Option Value},(∀v,(x,v)∉binds)→bindL kindOf binds m x=m x
 |[],_,_=>rfl
 |(n,v)::r,m,h=>by
  unfold bindL;rw [lX fun w hw=>h w (List.mem_cons_of_mem _ hw)]
  split
  ·have:x≠n:=by rintro rfl;exact h v List.mem_cons_self
   simp [this]
  ·rfl
theorem my{kindOf:Str→Option NameKind}{x:Str}:∀{binds:List (Str×Value)} {m:Str→Option Value},(∀v,(x,v)∉binds)→bindC kindOf binds m x=m x
 |[],_,_=>rfl
 |(n,v)::r,m,h=>by
  unfold bindC;rw [my fun w hw=>h w (List.mem_cons_of_mem _ hw)]
  split
  ·rfl
  ·have:x≠n:=by rintro rfl;exact h v List.mem_cons_self
   simp [this]
theorem mF{kindOf:Str→Option NameKind}{x:Str}{v:Value}:∀{P:List Str} {vs:List Value} {i:Nat} {m:Str→Option Value},P.Nodup→P[i]?=some x→vs[i]?=some v→kindOf x=some .local→
 bindL kindOf (P.zip vs) m x=some v
 |[],_,_,_,_,h,_,_=>by simp at h
 |_::_,[],_,_,_,_,h,_=>by simp at h
 |p::P,w::vs,0,m,nd,h1,h2,hk=>by
  simp at h1 h2;subst h1;subst h2;show bindL kindOf ((p,w)::P.zip vs) m p=_
  unfold bindL;rw [lX fun v hv=>(List.nodup_cons.mp nd).1 (List.of_mem_zip hv).1,if_pos hk]
  simp
 |p::P,w::vs,i+1,m,nd,h1,h2,hk=>by
  show bindL kindOf ((p,w)::P.zip vs) m x=_
  unfold bindL;exact mF (i:=i) (List.nodup_cons.mp nd).2 (by simpa using h1) (by simpa using h2) hk
theorem l0{kindOf:Str→Option NameKind}{x:Str}{v:Value}:∀{P:List Str} {vs:List Value} {i:Nat} {m:Str→Option Value},P.Nodup→P[i]?=some x→vs[i]?=some v→kindOf x≠some .local→
 bindC kindOf (P.zip vs) m x=some v
 |[],_,_,_,_,h,_,_=>by simp at h
 |_::_,[],_,_,_,_,h,_=>by simp at h
 |p::P,w::vs,0,m,nd,h1,h2,hk=>by
  simp at h1 h2;subst h1;subst h2;show bindC kindOf ((p,w)::P.zip vs) m p=_
  unfold bindC;rw [my fun v hv=>(List.nodup_cons.mp nd).1 (List.of_mem_zip hv).1,if_neg hk]
  simp
 |p::P,w::vs,i+1,m,nd,h1,h2,hk=>by
  show bindC kindOf ((p,w)::P.zip vs) m x=_
  unfold bindC;exact l0 (i:=i) (List.nodup_cons.mp nd).2 (by simpa using h1) (by simpa using h2) hk
def start(N:List Str)(vs:List V):St:=vs.map some++List.replicate (N.length-vs.length) none
noncomputable def dn(CX:qE)(P:Program)(w:World)(K:PySem.W.Frag)(mg:Str→Option Value)(base:Heap)(N:List Str)(qual:Str)(scope:Scope)(f:Addr)(cd:Value)(A:Around)(outer:List Env)(s:Shared)(H:Hp)(E:XK):Cx where
 prog:=P
 w:=w
 K:=K
 mg:=mg
 base:=base
 A:=A.deeper (envOfC qual scope s.heap.objs.size f cd)
 N:=N
 s₀:=s
 H₀:=H
 env:=envOfC qual scope s.heap.objs.size f cd
 outer:=outer
 stack:=envOfC qual scope s.heap.objs.size f cd::outer
 ex:=[]
 calm:=true
 fn:=fun _=>true
 pn:=[]
 xe:=fun e s'=>wpAny (model P w) (A.deeper (envOfC qual scope s.heap.objs.size f cd)) (leaving (envOfC qual scope s.heap.objs.size f cd) e) (fun _ B5=>CX outer H s E e B5) (fun e' B5=>CX outer H s E e' B5) s'
theorem pS{sc:Scope}{n:Nat}{x:Str}(h:sc.names.lookup x=some .cell):∃c,(cellsFrom n sc.names []).lookup x=some c:=by
 have q:=PySem.W.cellsFrom_some sc.names n [] (.inl h)
 exact Option.isSome_iff_exists.mp q
theorem ve{CX:qE}{P:Program}{w:World}{K:PySem.W.Frag}{mg:Str→Option Value}{base:Heap}{N ps:List Str}{qual:Str}{scope:Scope}{f:Addr}{cd:Value}{A:Around}{outer:List Env}{s s1:Shared}{H:Hp}{E:XK}{us:List Value}{vs:List V}
 (S:jf N ps scope) (hd:A.handled=none) (e0:gY P w K mg base A outer s H) (hl:vs.length=ps.length) (r:Vals vs us)
 (x:InCallC s s.heap.objs.size (bindL (envOfC qual scope s.heap.objs.size f cd).kindOf (ps.zip us) fun _=>none) (cellsFrom (s.heap.objs.size+1) scope.names []) (bindC (envOfC qual scope s.heap.objs.size f cd).kindOf (ps.zip us) fun _=>none) s1):
 Inv (dn CX P w K mg base N qual scope f cd A outer s H E) [] (start N vs) H s1:=by
 have hpl:ps.length≤N.length:=by have:=congrArg List.length S.pre;rw [List.length_take] at this;omega
 obtain⟨h1,tk,rfl,hk⟩:=x.done
 have B1:∀b:Addr,b∉(dn CX P w K mg base N qual scope f cd A outer s H E).ex:=fun b z=>absurd (show b∈([]:List Addr) from z) (by simp)
 refine⟨⟨e0.mod,S.kind,rfl,rfl,Nat.le_refl _,fun y z c h1 h2=>?_,fun y hy=>?_,fun y c _ h=>?_,fun _=>hd,Around.frames_deeper e0.frames,.inr ⟨rfl,rfl⟩,fun b z=>absurd z (B1 b),e0.bs,e0.bsz,fun b _ _=>B1 b,fun b z=>absurd z (B1 b),e0.funs,e0.frf⟩,
  rfl,e0.bare,Un.kept hk,⟨_,x.toInCall.ns,fun i y v h1 h2 h3=>?_⟩,fun y c h=>⟨_,x.cell y c h⟩,e0.hok.fresh (Nat.le_refl _),fun y c h=>?_,fun p hp=>absurd (show p∈([]:List (Addr×Obj)) from hp) (by simp),e0.hok.kept hk,?_⟩
 ·exact name_of_addr x.apart (PySem.mem_of_lookup h1) (PySem.mem_of_lookup h2)
 ·have hy:scope.names.lookup y=some .cell∨scope.names.lookup y=some .free:=hy
  rcases hy with hy|hy
  ·exact pS hy
  ·exact absurd rfl (S.nofree _ (PySem.mem_of_lookup hy))
 ·exact Nat.le_of_lt (x.above y c (PySem.mem_of_lookup h))
 ·have hi:i<vs.length:=by
   unfold start at h2
   by_cases hi:i<vs.length
   ·exact hi
   ·rw [List.getElem?_append_right (by simpa using hi)] at h2;rw [List.getElem?_replicate] at h2;split at h2<;>cases h2
  have ha:vs[i]?=some v:=by
   unfold start at h2;rw [List.getElem?_append_left (by simpa using hi),List.getElem?_map] at h2;cases e:vs[i]? with
   |none=>rw [e] at h2;cases h2
   |some a=>rw [e] at h2;cases h2;rfl
  obtain⟨u,hu,rv⟩:=r.get ha
  have hp:ps[i]?=some y:=by
   rw [←S.pre,List.getElem?_take_of_lt (by omega)];exact h1
  have MZ:ps.Nodup:=by rw [←S.pre];exact S.nd.sublist (List.take_sublist _ _)
  refine⟨u,rv,?_⟩;rcases S.par y (List.mem_of_getElem? hp) with k|k
  ·exact .inl ⟨k,mF MZ hp hu k⟩
  ·obtain⟨c,e⟩:=pS (n:=s.heap.objs.size+1) k
   refine .inr ⟨.inl k,c,e,?_⟩;have q:=x.cell y c e
   rw [l0 MZ hp hu (by show scope.names.lookup y≠_;rw [k];decide)] at q;exact q
 ·exact e0.hok.fresh (Nat.le_of_lt (x.above y c (PySem.mem_of_lookup h)))
 ·unfold start;show _=N.length
  rw [List.length_append,zzl,List.length_replicate];omega
theorem HG{CX:qE}{P:Program}{w:World}{K:PySem.W.Frag}{mg:Str→Option Value}{base:Heap}{k:Nat}{f:Addr}{name qual:Str}{params:Arguments}{body:List Stmt}{scope:Scope}{dV kV doc pm eZ ct oc:Value}{an od:Option Addr}
 {rK:Array (Option Value)} {N ps:List Str} {sp:Sp} (lk:K.lookup f=some ⟨oc,od,.func (PySem.W.fnOf name qual params body scope dV kV doc pm an eZ ct),rK⟩) (rZ:PySem.W.codeIn K eZ qual=true) (S:jf N ps scope)
 (len:∀vs H Q E,sp vs H Q E→vs.length=ps.length)
 (Iz:∀(A:Around) (outer:List Env) (s:Shared) (H:Hp) (vs:List V) (Q:VK) (E:XK),di k (A.deeper (envOfC qual scope s.heap.objs.size f eZ))→sp vs H Q E→
  ∃t,PSs (dn CX P w K mg base N qual scope f eZ A outer s H E) body t∧t {nx:=fun _ H'=>Q .non H',rt:=Q} (start N vs) H):
 fD P w K mg base CX (k+1) f (PySem.W.fnOf name qual params body scope dV kV doc pm an eZ ct) ps sp:=by
 refine⟨len,fun A outer s H args us vs Q E hr e0 hb r Dl=>?_⟩
 have hl:=len _ _ _ _ Dl
 have KX:K.In s.heap:=e0.mod.kin.keeps fun b o e=>(e0.bs b o e).1
 have lim:s.heap.NoLimit:=e0.mod.nolimit.keeps fun b o e=>(e0.bs b o e).1
 have Iq:∀y∈ps.zip us,scope.names.lookup y.1=some .local∨(scope.names.lookup y.1=some .cell∧((cellsFrom (s.heap.objs.size+1) scope.names []).lookup y.1).isSome=true):=fun⟨n,v⟩ hy=>by
  rcases S.par n (List.of_mem_zip hy).1 with q|q
  ·exact .inl q
  ·exact .inr ⟨q,PySem.W.cellsFrom_some _ _ _ (.inl q)⟩
 refine codeAny_call_function hr.depth (KX _ _ lk) rfl S.co S.gen rfl (PySem.W.codeRec_of KX rZ) (hb _ _ _ _ ?_);refine wpAny_newFunctionEnv_cells S.kind Iq fun env he s1 x=>?_
 subst he;refine⟨lim.keeps x.toInCall.keep,codeAny_func ?_⟩;obtain⟨t,ht,hq⟩:=Iz A outer s H vs Q E (hr.deeper _) Dl
 have I:Inv (dn CX P w K mg base N qual scope f eZ A outer s H E) [] (start N vs) H s1:=ve S hr.hd e0 hl r x
 refine wpAny_mono (ht [] s1 (start N vs) H _ I hq) (fun fl s' hs=>?_) fun e s' hs=>hs
 have fin:∀{σ':St} {H':Hp} {v:V} {u:Value},Inv (dn CX P w K mg base N qual scope f eZ A outer s H E) [] σ' H' s'→RelV v u→Q v H'→CE outer P w H s Q u s':=
  fun{σ' H' v u} J rv q=>⟨v,H',J.os,J.bare,J.base,J.hok,rv,q⟩
 cases fl with
 |ret u=>
  obtain⟨v,σ',H',J,rv,q⟩:=hs
  exact fin J rv q
 |next=>
  obtain⟨σ',H',J,q⟩:=hs
  exact fin (v:=V.non) (u:=Value.none) J rfl q
 |brk=>
  obtain⟨_,_,_,q⟩:=hs
  exact False.elim q
 |cont=>
  obtain⟨_,_,_,q⟩:=hs
  exact False.elim q
end L2
namespace L2
open PySem PySem.Spec PyProof.Rows
section
variable{X:Cx}{x:Str}{p pos:Pos}{e:Expr}{es:List Expr}{t:TA}{id T:String}{r:List V→Hp→VK→Prop}
def Js(r:List V→Hp→VK→Prop)(t:TA):TE:=fun σ H Q=>t σ H fun vs H1=>r vs H1 Q
theorem fO(hc:cT X (.builtin id) r)(hg:Gl X x)(hm:X.mg x=none)(hv:bootBuiltins x=some (.builtin id))(ha:PA X (e::es) t)(hn:x≠"__name__":=by decide)(AB:(x==("__debug__":Str))=false:=by decide)
 (he:starEach (e::es) X.env=(false,eval e X.env)::starEach es X.env:=by rfl) (hpl:(backTo pos (starEach es X.env)).any (·.1)=false:=by rfl):PE X (.Call (.Name x p) (e::es) [] pos) (Js r t):=by
 intro pins s σ H Q I h;refine wpAny_Call_Name_kw (eU I hg hm hv ?_ hn AB);exact PyProof.Rows.callWith_builtin1 (bR (ha pos pins s σ H _ I h) fun us s1 ⟨vs,H1,I1,r1,q1⟩=>hc pins s1 σ H1 vs us Q I1 r1 q1) he hpl
theorem fV(hc:cT X (.type T) r)(hg:Gl X x)(hm:X.mg x=none)(hv:bootBuiltins x=some (.type T))(ha:PA X (e::es) t)(hn:x≠"__name__":=by decide)(AB:(x==("__debug__":Str))=false:=by decide)
 (he:starEach (e::es) X.env=(false,eval e X.env)::starEach es X.env:=by rfl) (hpl:(backTo pos (starEach es X.env)).any (·.1)=false:=by rfl):PE X (.Call (.Name x p) (e::es) [] pos) (Js r t):=by
 intro pins s σ H Q I h;refine wpAny_Call_Name_kw (eU I hg hm hv ?_ hn AB);exact PyProof.Rows.callWith_type1 (bR (ha pos pins s σ H _ I h) fun us s1 ⟨vs,H1,I1,r1,q1⟩=>hc pins s1 σ H1 vs us Q I1 r1 q1) he hpl
end
end L2
namespace HT
open PySem PyProof.Rows
def lexLt:List Int→List Int→Bool
 |[],[]=>false
 |[],_::_=>true
 |_::_,[]=>false
 |x::xs,y::ys=>if x=y then lexLt xs ys else decide (x<y)
theorem lexLt_cons(x y:Int)(xs ys:List Int):lexLt (x::xs) (y::ys)=if x=y then lexLt xs ys else decide (x<y):=rfl
theorem lexLt_nil_nil:lexLt [] []=false:=rfl
section
open PySem.SeqAt
open PySem.AutoSeq1 (wpAny_loadPart')
open PySem.MeetsSeq PySem.MeetsSeq2 PySem.MeetsSeq3
end
section
variable{prog:Program}{w:World}{A:Around}{E:Value→Shared→Prop}{s:Shared}
def sIx(n d:Nat):Option Int→Nat
 |none=>d
 |some v=>if v<0 then(v+(n:Int)).toNat else min v.toNat n
theorem sIx_none(n d:Nat):sIx n d none=d:=rfl
theorem sIx_nat(n d k:Nat):sIx n d (some (k:Int))=min k n:=by
 show(if(k:Int)<0 then((k:Int)+(n:Int)).toNat else min (k:Int).toNat n)=min k n
 rw [if_neg (by omega),Int.toNat_natCast]
theorem sf{v:Value}{o:Option Int}{Q:Option Int→Shared→Prop}(p:IsPart v o)(h:Q o s):wpAny (model prog w) A (Builtin.Slice.slicePartIndex v) Q E s:=by
 cases p with
 |none=>exact slicePart_none h
 |int i t=>exact slicePart_int h
end
end HT
namespace L2
open PySem PySem.Spec PyProof.Rows
abbrev TO:=St→Hp→(Option Int→Hp→Prop)→Prop
def PO(X:Cx)(e:Option Expr)(t:TO):Prop:=
 ∀(pins:List (Addr×Obj)) (s:Shared) (σ:St) (H:Hp) (Q:Option Int→Hp→Prop),Inv X pins σ H s→t σ H Q→
  wpAny (model X.prog X.w) X.A (evalPart e X.env) (fun u s'=>∃o H',Inv X pins σ H' s'∧IsPart u o∧Q o H') X.xe s
def BH:TO:=fun _ H Q=>Q none H
def IM(t:TE):TO:=fun σ H Q=>t σ H fun x H1=>∃i,x=.int i∧Q (some i) H1
section
variable{X:Cx}{e:Expr}{te:TE}{lo hi:Option Expr}{tl th:TO}{pos p2:Pos}
theorem AI:PO X none BH:=by
 intro pins s σ H Q I h;rw [evalPart_none];exact wpAny_pure ⟨none,H,I,.none,h⟩
theorem Au(h:PE X e te):PO X (some e) (IM te):=by
 intro pins s σ H Q I hw;rw [evalPart_some];refine bR (h pins s σ H _ I hw) fun u s1 ⟨x,H1,I1,r1,q1⟩=>?_
 obtain⟨i,rfl,q⟩:=q1
 obtain⟨t,rfl⟩:=r1
 exact⟨some i,H1,I1,.int i t,q⟩
def SlR(X:Cx)(r:V→Option Int→Option Int→Hp→VK→Prop):Prop:=
 ∀(pins:List (Addr×Obj)) (s:Shared) (σ:St) (H:Hp) (x:V) (v vl vu:Value) (lo hi:Option Int) (sl:Addr) (Q:VK),Inv X pins σ H s→RelV x v→s.heap.IsSliceOf sl vl vu .none→IsPart vl lo→IsPart vu hi→r x lo hi H Q→
  ∃T id,typeLookup (.type T) "__getitem__"=pure (some (.builtin id))∧s.TypeIs v T∧wpAny (model X.prog X.w) X.A (getItem v (.ref sl)) (EP X pins σ Q) X.xe s
def Oq(r:V→Option Int→Option Int→Hp→VK→Prop)(te:TE)(tl th:TO):TE:=fun σ H Q=>te σ H fun x H1=>tl σ H1 fun l H2=>th σ H2 fun u H3=>r x l u H3 Q
theorem yn{r:V→Option Int→Option Int→Hp→VK→Prop}(hr:SlR X r)(he:PE X e te)(hl:PO X lo tl)(hu:PO X hi th):PE X (.Subscript e (.Slice lo hi none p2) pos) (Oq r te tl th):=by
 intro pins s σ H Q I h;refine Subscript_ (bR (he pins s σ H _ I h) fun v s1 ⟨x,H1,I1,r1,q1⟩=>?_)
 refine wpAny_Slice (bR (hl pins s1 σ H1 _ I1 q1) fun vl s2 ⟨l,H2,I2,pl,q2⟩=>bR (hu pins s2 σ H2 _ I2 q2) fun vu s3 ⟨u,H3,I3,pu,q3⟩=>?_)
 rw [evalPart_none];refine wpAny_pure ?_;have I4:Inv X pins σ H3 {s3 with heap:=s3.heap.push {cls:=.type "slice",data:=.fields #[vl,vu,.none]}}:=I3.kept (t':=s3.toks) fun b ob q=>Heap.get?_push_of_some _ q
 obtain⟨T,id,hT,ht,hg⟩:=hr pins {s3 with heap:=s3.heap.push {cls:=.type "slice",data:=.fields #[vl,vu,.none]}} σ H3 x v vl vu l u s3.heap.objs.size Q I4 r1 (Heap.IsSliceOf.new ..) pl pu q3
 show wpAny (model X.prog X.w) X.A (subscriptTail e (.Slice lo hi none p2) v (.ref s3.heap.objs.size)) (EP X pins σ Q) X.xe {s3 with heap:=s3.heap.push {cls:=.type "slice",data:=.fields #[vl,vu,.none]}}
 exact tail_any (ops:=[.ref s3.heap.objs.size,v]) ht hT hg (by with_unfolding_all rfl)
def vT(xs:List V)(lo hi:Option Int):List V:=(xs.drop (HT.sIx xs.length 0 lo)).take (HT.sIx xs.length xs.length hi-HT.sIx xs.length 0 lo)
theorem oV(xs:List V)(lo hi:Option Int):(vT xs lo hi).length≤xs.length:=by
 unfold vT;rw [List.length_take,List.length_drop];omega
end
end L2
namespace L2
open PySem PySem.Spec PyProof.Rows
def C3(n:Nat)(i:Int):Option Nat:=if 0≤i then(if i<n then some i.toNat else none) else if -(n:Int)≤i then some (i+n).toNat else none
def pL{α:Type}(xs:List α)(i:Int):Option α:=(C3 xs.length i).bind fun j=>xs[j]?
theorem Cb{n:Nat}{i:Int}{j:Nat}(h:C3 n i=some j):seqIndex? i n=some j∧j<n∧ -(n:Int)≤i∧i<n:=by
 unfold C3 at h
 by_cases h0:0≤i
 ·rw [if_pos h0] at h
  by_cases h1:i<n
  ·rw [if_pos h1] at h;have e:i.toNat=j:=Option.some.inj h
   exact⟨by rw [seqIndex_of h0 h1,e],by omega,by omega,h1⟩
  ·rw [if_neg h1] at h;cases h
 ·rw [if_neg h0] at h
  by_cases h1: -(n:Int)≤i
  ·rw [if_pos h1] at h;have e:(i+n).toNat=j:=Option.some.inj h
   exact⟨by rw [seqIndex_neg (by omega) h1,e],by omega,h1,by omega⟩
  ·rw [if_neg h1] at h;cases h
theorem nK{α:Type}{xs:List α}{i:Int}{v:α}(h:pL xs i=some v):∃j,seqIndex? i xs.length=some j∧xs[j]?=some v∧j<xs.length∧ -(xs.length:Int)≤i∧i<xs.length:=by
 unfold pL at h;cases e:C3 xs.length i with
 |none=>rw [e] at h;cases h
 |some j=>
  rw [e] at h;obtain⟨h1,h2,h3,h4⟩:=Cb e
  exact⟨j,h1,h,h2,h3,h4⟩
def oD(b:Expr):Prop:=∀o i,subscripted b false o i=operate [o,i] (getItem o i)
def Gh(X:Cx)(r:R2):Prop:=
 ∀(value slice:Expr) (pins:List (Addr×Obj)) (s:Shared) (σ:St) (H:Hp) (x y:V) (v u:Value) (Q:VK),Inv X pins σ H s→RelV x v→RelV y u→r x y H Q→
  subscripted slice false v u=operate [v,u] (getItem v u)→wpAny (model X.prog X.w) X.A (subscriptTail value slice v u) (EP X pins σ Q) X.xe s
def K1(X:Cx)(id:String)(r:V→List V→Hp→VK→Prop):Prop:=
 ∀(pins:List (Addr×Obj)) (s:Shared) (σ:St) (H:Hp) (x:V) (xs:List V) (v:Value) (us:List Value) (Q:VK),Inv X pins σ H s→RelV x v→Vals xs us→r x xs H Q→
  wpAny (model X.prog X.w) X.A (call (.builtin id) (v::us)) (EP X pins σ Q) X.xe s
section
variable{X:Cx}{a b:Expr}{ta tb:TE}{pos:Pos}
theorem CO{r:R2}(hr:Gh X r)(ha:PE X a ta)(hb:PE X b tb)(hs:oD b):PE X (.Subscript a b pos) (Gz r ta tb):=by
 intro pins s σ H Q I h;exact Subscript_ (Ep ha hb I h fun v u s2 x y H2 I2 rx ry q=>hr a b pins s2 σ H2 x y v u Q I2 rx ry q (hs _ _))
noncomputable def Km(K:PySem.W.Frag):R2:=fun x y H Q=>∃p xs i v,x=.ref p∧y=.int i∧gk K H p xs∧pL xs i=some v∧Q v H
noncomputable def G9(K:PySem.W.Frag):R2:=fun x y H Q=>∃p xs i v,x=.ref p∧y=.int i∧eJ K H p xs∧pL xs i=some v∧Q v H
noncomputable def Ke:R2:=fun x y H Q=>∃z i c,x=.str z∧y=.int i∧z.length≤sizeLine∧pL z.cps.toList i=some c∧Q (.str ⟨#[c]⟩) H
theorem A9:Gh X (Km X.K):=by
 intro value slice pins s σ H x y v u Q I rx ry h hs;obtain⟨p,xs,i,z,rfl,rfl,hq,he,q⟩:=h
 cases rx;obtain⟨t,rfl⟩:=ry
 obtain⟨aD,r,pl,hz⟩:=I.list hq
 obtain⟨j,h1,h2,h3,h4,h5⟩:=nK he
 obtain⟨w,ew,gu⟩:=r.get h2
 have hl:=r.length
 have hn:=kP
 have fin:EP X pins σ Q w s:=⟨z,H,I,gu,q⟩
 by_cases h0:0≤i
 ·have hj:i.toNat=j:=by
   rw [seqIndex_of h0 h5] at h1;exact Option.some.inj h1
  exact item_listR pl.isList h0 (by omega) (by rw [hj];simpa using ew) fin hs
 ·have hj:(i+(aD.toArray.size:Int)).toNat=j:=by
   rw [seqIndex_neg (by omega) h4] at h1;rw [List.size_toArray,←hl];exact Option.some.inj h1
  exact subscriptTail_builtinR (x:=w) pl.isList.typeIs slot_list_getitem.lookup
   (wpAny_getItem_list_neg (Q:=fun r s'=>r=w∧EP X pins σ Q r s') pl.isList (by omega) (by rw [List.size_toArray]<;>omega) (by omega) (by rw [hj];simpa using ew) ⟨rfl,fin⟩) hs
theorem zt:Gh X (G9 X.K):=by
 intro value slice pins s σ H x y v u Q I rx ry h hs;obtain⟨p,xs,i,z,rfl,rfl,hq,he,q⟩:=h
 cases rx;obtain⟨t,rfl⟩:=ry
 obtain⟨aD,r,pl,hz⟩:=I.tuple hq
 obtain⟨j,h1,h2,h3,h4,h5⟩:=nK he
 obtain⟨w,ew,gu⟩:=r.get h2
 have hl:=r.length
 have hn:=kP
 have fin:EP X pins σ Q w s:=⟨z,H,I,gu,q⟩
 exact subscriptTail_builtinR (x:=w) pl.typeIs slot_tuple_getitem.lookup
  (getItem_tuple (j:=j) (Q:=fun r s'=>r=w∧EP X pins σ Q r s') pl (by omega) (by omega) (by rw [List.size_toArray,←hl];exact h1) (by simpa using ew) ⟨rfl,fin⟩) hs
theorem F5:Gh X Ke:=by
 intro value slice pins s σ H x y v u Q I rx ry h hs;obtain⟨z,i,c,rfl,rfl,hz,he,q⟩:=h
 obtain⟨t,rfl⟩:=rx
 obtain⟨t',rfl⟩:=ry
 obtain⟨j,h1,h2,h3,h4,h5⟩:=nK he
 have hl:z.cps.toList.length=z.length:=by simp [Str.length]
 rw [hl] at h1 h4 h5;have hn:=kP
 exact tail_any (typeIs_str s z t) slot_str_getitem.lookup (getItem_str (c:=c) (by
  have e1:decide (i< -(2^63:Int))=false:=decide_eq_false (by omega)
  have e2:decide (i≥2^63)=false:=decide_eq_false (by omega)
  rw [e1,e2,Bool.or_false]) (by rw [h1];simpa using h2) ⟨.str ⟨#[c]⟩,H,I.tok _,⟨_,rfl⟩,q⟩) hs
theorem mS(lo hi:Option Int)(n:Nat):(sliceBounds lo hi none n).1=((HT.sIx n 0 lo:Nat):Int)∧(sliceBounds lo hi none n).2.1=((HT.sIx n n hi:Nat):Int)∧(sliceBounds lo hi none n).2.2=1:=by
 refine⟨?_,?_,rfl⟩
 ·cases lo with
  |none=>simp [sliceBounds,HT.sIx]
  |some i=>
   simp only [sliceBounds,HT.sIx,Option.getD_none,show(1:Int)>0 by decide,if_true]
   by_cases h:i<0
   ·simp only [h,if_true]<;>omega
   ·simp only [h,if_false]<;>omega
 ·cases hi with
  |none=>simp [sliceBounds,HT.sIx]
  |some i=>
   simp only [sliceBounds,HT.sIx,Option.getD_none,show(1:Int)>0 by decide,if_true]
   by_cases h:i<0
   ·simp only [h,if_true]<;>omega
   ·simp only [h,if_false]<;>omega
theorem k9(aD:List Value)(lo hi:Option Int):slicePick aD.toArray lo hi none=((aD.drop (HT.sIx aD.length 0 lo)).take (HT.sIx aD.length aD.length hi-HT.sIx aD.length 0 lo)).toArray:=by
 obtain⟨h1,h2,h3⟩:=mS lo hi aD.toArray.size
 unfold slicePick;rw [h1,h2,h3];simp only [sliceRange_one,pick_run,List.size_toArray]<;>rfl
def KO(K:PySem.W.Frag):V→Option Int→Option Int→Hp→VK→Prop:=fun x lo hi H Q=>∃a xs,x=.ref a∧gk K H a xs∧∀p,H p=none→Q (.ref p) (upd H p (.lst (vT xs lo hi)))
theorem zS:SlR X (KO X.K):=by
 intro pins s σ H x v vl vu lo hi sl Q I rx hs pl pu h;obtain⟨a,xs,rfl,hx,q⟩:=h
 cases rx;obtain⟨aD,r,ht,hz⟩:=I.list hx
 have hlen:=r.length
 refine⟨"list",_,slot_list_getitem.lookup,ht.isList.typeIs,?_⟩;refine wpAny_getItem_list_slice ht.isList hs pl pu .none (by simp) ?_ (by rw [List.size_toArray]<;>omega);rw [k9,←hlen];refine⟨.ref s.heap.objs.size,_,I.laid (t':=s.toks) (o:=.lst (vT xs lo hi)) (fun b ob q=>Heap.get?_push_of_some _ q) (Nat.le_refl _) ?_,rfl,q _ (I.hok.fresh (Nat.le_refl _))⟩;exact⟨Nat.le_trans (oV xs lo hi) hz,_,0,(r.drop (HT.sIx xs.length 0 lo)).take (HT.sIx xs.length xs.length hi-HT.sIx xs.length 0 lo),Heap.get?_push_size _ rfl⟩
theorem gP:cT X (.builtin "len") (fun xs H Q=>∃p ys,xs=[.ref p]∧(gk X.K H p ys∨eJ X.K H p ys)∧Q (.int ys.length) H):=by
 intro pins s σ H xs us Q I r h;obtain⟨p,ys,rfl,hq,q⟩:=h
 obtain⟨u,rfl,rx⟩:=vals1 r
 cases rx;have hn:=kP
 rcases hq with hq|hq
 ·obtain⟨aD,r',pl,hz⟩:=I.list hq
  have hlen:=r'.length
  exact Calls.call_len_list pl.isList (by simp only [List.size_toArray]<;>omega) ⟨.int ys.length,H,I.tok _,⟨s.toks+1,by rw [List.size_toArray,hlen]⟩,q⟩
 ·obtain⟨aD,r',pl,hz⟩:=I.tuple hq
  have hlen:=r'.length
  exact len_tuple pl (by simp only [List.size_toArray]<;>omega) ⟨.int ys.length,H,I.tok _,⟨s.toks+1,by rw [List.size_toArray,hlen]⟩,q⟩
theorem oF:cT X (.builtin "len") (fun xs H Q=>∃z,xs=[.str z]∧z.length≤sizeLine∧Q (.int z.length) H):=by
 intro pins s σ H xs us Q I r h;obtain⟨z,rfl,hz,q⟩:=h
 obtain⟨u,rfl,t,rfl⟩:=vals1 r
 have hn:=kP
 exact len_str (by omega) ⟨.int z.length,H,I.tok _,⟨_,rfl⟩,q⟩
theorem lD:cT X (.type "tuple") (fun xs H Q=>∃p ys,xs=[.ref p]∧((gk X.K H p ys∧∀l,H l=none→Q (.ref l) (upd H l (.tup ys)))∨(eJ X.K H p ys∧Q (.ref p) H))):=by
 intro pins s σ H xs us Q I r h;obtain⟨p,ys,rfl,h⟩:=h
 obtain⟨u,rfl,rx⟩:=vals1 r
 cases rx;rcases h with⟨hq,q⟩|⟨hq,q⟩
 ·obtain⟨aD,r',pl,hz⟩:=I.list hq
  have hlen:=r'.length
  refine call_tuple_list pl.isList (fun h' kp=>?_) (by simp only [List.size_toArray]<;>omega);have I1:Inv X pins σ H {s with heap:=h'}:=I.kept (t':=s.toks) kp
  have I2:Inv X pins σ (upd H h'.objs.size (.tup ys)) {s with heap:=h'.push {cls:=.type "tuple",data:=.seq aD.toArray}}:=
   I1.laid (t':=s.toks) (fun b o e=>Heap.get?_push_of_some _ e) (Nat.le_refl _) (show bV X.prog X.w _ _ _ (.tup ys) from⟨hz,aD,r',IsTup.new _ _⟩)
  exact⟨.ref h'.objs.size,_,I2,rfl,q _ (I1.hok.fresh (Nat.le_refl _))⟩
 ·obtain⟨aD,r',pl,hz⟩:=I.tuple hq
  exact call_tuple_same pl ⟨.ref p,H,I,rfl,q⟩
def KR(K:PySem.W.Frag)(T:String)(x:V)(H:Hp):Prop:=match x with
 |.str _=>T="str"
 |.int _=>T="int"
 |.ref p=>(T="list"∧∃xs,gk K H p xs)∨(T="tuple"∧∃o,K.lookup p=some o∧o.cls=.type "tuple"∧o.dict=none)∨
  (T="dict"∧((∃aB,H p=some (.dK aB))∨∃aB,H p=some (.dT aB)))∨(T="set"∧∃S n,H p=some (.set S n))
 |_=>False
theorem Gd{pins:List (Addr×Obj)}{σ:St}{H:Hp}{s:Shared}{T:String}{x:V}{v:Value}(I:Inv X pins σ H s)(r:RelV x v)(ty:KR X.K T x H):
 s.TypeIs v T∧∀a,v=.ref a→∃ob,s.heap.get? a=some ob∧ob.dict=none:=by
 cases x with
 |str z=>
  obtain⟨t,rfl⟩:=r
  cases(show T="str" from ty);exact⟨typeIs_str s z t,fun _ e=>nomatch e⟩
 |int i=>
  obtain⟨t,rfl⟩:=r
  cases(show T="int" from ty);exact⟨typeIs_int s i t,fun _ e=>nomatch e⟩
 |ref p=>
  cases r;rcases ty with⟨rfl,xs,hq⟩|⟨rfl,o,hk,hc,hd⟩|⟨rfl,hk⟩|⟨rfl,S,n,hk⟩
  ·obtain⟨aD,_,pl,_⟩:=I.list hq
   refine⟨pl.isList.typeIs,fun a e=>?_⟩
   cases e;obtain⟨o,n,e,c,hd,_⟩:=pl
   exact⟨o,e,hd⟩
  ·refine⟨⟨o,I.kIn p o hk,hc⟩,fun a e=>?_⟩
   cases e;exact⟨o,I.kIn _ o hk,hd⟩
  ·have z:∃o,s.heap.get? p=some o∧o.ExactDict:=by
    rcases hk with⟨aB,hk⟩|⟨aB,hk⟩
    ·obtain⟨_,_,_,_,o,_,_,e,ex,_⟩:=I.hok p _ hk
     exact⟨o,e,ex⟩
    ·obtain⟨_,_,_,_,o,_,_,e,ex,_⟩:=I.hok p _ hk
     exact⟨o,e,ex⟩
   obtain⟨o,e,ex⟩:=z
   refine⟨⟨o,e,ex.1⟩,fun a e2=>?_⟩
   cases e2;exact⟨o,e,ex.2.1⟩
  ·obtain⟨o,_,_,_,e,ex,_⟩:=I.hok p _ hk
   refine⟨⟨o,e,ex.1⟩,fun a e2=>?_⟩
   cases e2;exact⟨o,e,ex.2.1⟩
 |_=>exact False.elim ty
noncomputable def LY(K:PySem.W.Frag)(T:String)(r:V→List V→Hp→VK→Prop)(to:TE)(t:TA):TE:=fun σ H Q=>to σ H fun x H1=>KR K T x H1∧t σ H1 fun xs H2=>r x xs H2 Q
variable{o e:Expr}{es:List Expr}{to:TE}{t:TA}{name:Str}{apos bC:Pos}{T id:String}{r:V→List V→Hp→VK→Prop}
theorem xh(pa:PlainAttrs T)(slot:Slot T name id)(NO:typeOf (.builtin id)=pure (.type "method_descriptor"))(hm:K1 X id r)(ho:PE X o to)(ha:PA X (e::es) t)
 (e9:attributeBase o name X.env (eval o X.env)=eval o X.env:=by rfl)
 (DF:((backTo bC (starEach (e::es) X.env)).all (fun x=>!x.1)&&(backToKw bC (keywordEach [] X.env)).all (fun x=>x.1.isSome)
  &&decide ((e::es).length+([]:List Keyword).length+(if([]:List Keyword).isEmpty then 0 else 1)<30))=true:=by rfl)
 (ik:(apos.endLine==bC.line)=true:=by rfl) (hs:starEach (e::es) X.env=(false,eval e X.env)::starEach es X.env:=by rfl) (kl:(backTo bC (starEach es X.env)).any (·.1)=false:=by rfl):
 PE X (.Call (.Attribute o name apos) (e::es) [] bC) (LY X.K T r to t):=by
 intro pins s σ H Q I h;refine wpAny_Call_method_late e9 DF ik rfl (bR (ho pins s σ H _ I h) fun v s1 ⟨x,H1,I1,r1,ty,q1⟩=>?_)
 obtain⟨h1,h2⟩:=Gd I1 r1 ty
 refine⟨T,id,pa,slot,NO,h1,h2,?_⟩;have hA:=ha bC pins s1 σ H1 _ I1 q1
 rw [hs] at hA⊢;refine Calls.callWith_builtin (by show(false||(backTo bC (starEach es X.env)).any (·.1))=false;rw [kl]<;>rfl) (Calls.evalArgs_plain ?_);exact bR hA fun us s2 ⟨vs,H2,I2,r2,q2⟩=>hm pins s2 σ H2 x vs v us Q I2 r1 r2 q2
end
end L2
namespace L2
open PySem PySem.Spec PyProof.Rows
def NM(X:Cx)(id:String)(r:V→List V→Hp→VK→Prop):Prop:=
 ∀(pins:List (Addr×Obj)) (s:Shared) (σ:St) (H:Hp) (x:V) (xs:List V) (v:Value) (us:List Value) (Q:VK),Inv X pins σ H s→RelV x v→Vals xs us→r x xs H Q→
  wpAny (model X.prog X.w) X.A (call (.builtin id) (v::us)) (EP X pins σ Q) X.xe s
theorem Vals.one:∀{x:V} {us:List Value},Vals [x] us→∃u,us=[u]∧RelV x u
 |_,_,.cons r .nil=>⟨_,rfl,r⟩
theorem Vals.two{x y:V}{us:List Value}(h:Vals [x,y] us):∃u v,us=[u,v]∧RelV x u∧RelV y v:=by
 cases h with
 |cons r q=>
  cases q with
  |cons q n=>cases n;exact⟨_,_,rfl,r,q⟩
section
variable{X:Cx}{pins:List (Addr×Obj)}{σ:St}{H:Hp}{s:Shared}{l b:Addr}{xs ys zs:List V}
theorem Inv.lset{aD its':List Value}{n:Nat}{f:Array Value→Array Value}{t':Nat}(I:Inv X pins σ H s)(hH:H l=some (.lst xs))
 (e:s.heap.get? l=some {cls:=.type "list",data:=.seq aD.toArray n}) (hf:f aD.toArray=its'.toArray) (hv:Vals ys its') (hz:ys.length≤sizeLine):
 Inv X pins σ (upd H l (.lst ys)) {s with heap:=s.heap.update l (Obj.mapSeq f),toks:=t'}:=by
 have q:=PySem.IsL.update e f
 rw [hf] at q;refine I.write (x:=l) (e:=l) (by rw [hH];exact trivial) (.inl rfl) (fun b' u hb hu=>(Heap.get?_update_other s.heap (Obj.mapSeq f) (Ne.symm hb)).trans hu) ⟨_,q⟩ ?_
 exact⟨hz,its',_,hv,q⟩
theorem Inv.lstM(I:Inv X pins σ H s)(hH:H l=some (.lst xs)):xs.length≤sizeLine∧∃(aD:List Value) (n:Nat),Vals xs aD∧xs.length=aD.length∧s.heap.get? l=some {cls:=.type "list",data:=.seq aD.toArray n}:=by
 obtain⟨z,aD,n,r,e⟩:=I.hok l _ hH
 exact⟨z,aD,n,r,r.length,e⟩
theorem xT{n:Nat}(h:n≤sizeLine):Builtin.List.listTooLong n=false:=by
 unfold Builtin.List.listTooLong;exact decide_eq_false (by omega)
end
section
variable{X:Cx}
def Cd:V→List V→Hp→VK→Prop:=fun x vs H Q=>∃l xs y,x=.ref l∧vs=[y]∧H l=some (.lst xs)∧xs.length<sizeLine∧Q .non (upd H l (.lst (xs++[y])))
theorem uO:NM X "list.append" Cd:=by
 intro pins s σ H x vs v us Q I rx rv h;obtain⟨l,xs,y,rfl,rfl,hH,hz,q⟩:=h
 cases rx;obtain⟨u,rfl,ru⟩:=rv.one
 obtain⟨z,aD,n,r,hl,e⟩:=I.lstM hH
 refine call_meets F.slot_list_append ⟨_,e,rfl⟩ F.entry_list_append (F.args_list_append_2 _ _) (PySem.list_append l aD.toArray n u (by rw [List.size_toArray];omega)) ⟨e,?_⟩;refine⟨.non,_,I.lset (its':=aD++[u]) hH e (by simp) (r.append (.cons ru .nil)) ?_,rfl,q⟩;rw [List.length_append,List.length_singleton];omega
end
section
variable{prog:Program}{w:World}{A:Around}{E:Value→Shared→Prop}{s:Shared}
end
section
variable{X:Cx}
end
end L2
namespace Att
open PySem PySem.W PySem.Calls PyProof.Rows
theorem iZ{P:Params}{h:Heap}:∀(ns:List Int) (vs:List Value),WellAll P h vs (ns.map WData.int)→IntsAre vs ns:=by
 intro ns
 induction ns with
 |nil=>
  intro vs w;rw [List.map_nil] at w;cases w;exact .nil
 |cons n ns ih=>
  intro vs w;rw [List.map_cons] at w;cases w with
  |cons a b=>
   cases a;exact .cons _ _ (ih _ b)
theorem vp{l:OpenLaw}{n:Nat}(hn:l.most=some n){P:Params}{h:Heap}{args:List WData}{vals:List Value}
 (jj:l.row.toRowW.claim.pre args=true) (JS:WellAll P h vals args):
 ∃a vs ns,vals=[Value.ref a]∧args=[WData.list (ns.map WData.int)]∧h.get? a=some {cls:=.type "list",data:=.seq vs.toArray}∧IntsAre vs ns∧ns.length≤n:=by
 have N7:WShape.hasAll [] args [.list .int]=true:=(pre_splitW jj).1
 have hc:l.pre.holds [] {args:=args}=true:=(pre_splitW jj).2
 obtain⟨d,r,rfl,h1,h2⟩:=hasAllW_cons N7
 obtain rfl:=hasAllW_nil h2
 obtain⟨xs,rfl,h3⟩:=hasW_list h1
 obtain⟨ns,rfl⟩:=items_int h3
 have hlen:ns.length≤n:=by
  unfold OpenLaw.pre at hc;have h4:(WTm.not (.lt (.lit (.int (n:Int))) (.len (.arg 0)))).holds [] {args:=[.list (ns.map .int)]}=true:=by
   have h4:=(holds_andW hc).1
   rw [hn] at h4;exact h4
  have h5:=condW_of h4 (w_not (w_lt w_lit (w_len_list (w_arg rfl))))
  rw [zzl] at h5;refine Nat.le_of_not_lt fun q=>?_
  have q':(n:Int)<((ns.length:Nat):Int):=by omega
  first
   |(rw [decide_eq_true q'] at h5;exact absurd h5 (by decide))
   |(simp at h5;omega)
 cases JS with
 |cons w1 w2=>
  cases w2;cases w1 with
  |list ho w4=>exact⟨_,_,ns,rfl,rfl,ho,iZ ns _ w4,hlen⟩
theorem vc(l:OpenLaw)(args:List WData):l.row.toRowW.claim.post args (.bool true) args=true:=
 postW_of (r:=l.row.toRowW) (X:=(true==true))
  (show WShape.has [] (.bool true) .bool=true by first|rfl|decide|simp [WShape.has,WShape.arms,WShape.armsAll])
  (show(WTm.eq .res (.lit (.bool true))).value [] {args:=args,res:=some (.bool true),after:=args}=some (.bool (true==true)) from w_eq_bool (w_res rfl) w_lit) rfl
theorem attach_call{l:OpenLaw}{n:Nat}{q:Program}{loose:List Str}{XP:(Str→Option Value)→Heap→Prop}{YP:World→Heap→Prop}{d:DefRec}
 (hn:l.most=some n) (HC:d.params.defaults=[])
 (call:∀(w:World) (s₀ s₁:Shared) (mg mb:Str→Option Value) (fa:Addr) (o:Obj) (pm cd doc:Value) (a:Addr) (vs:List Value) (ns:List Int),
  Ground q loose [] XP w s₀ mg mb s₁.heap→YP w s₁.heap→
  s₁.heap.get? fa=some o→o.data=.func (docDef d.name d.params d.body d.scope pm cd doc)→s₁.heap.CodeRec cd d.name→mg d.name=some (.ref fa)→
  s₁.heap.get? a=some {cls:=.type "list",data:=.seq vs.toArray}→IntsAre vs ns→ns.length≤n→s₁.gens=#[]→
  codeAny (model l.prog w) callerA (.call (.ref fa) ⟨[.ref a],[]⟩) (fun r s'=>r=.ok (.ret (.bool true))∧OldK s₁.heap s'.heap∧s'.os=s₁.os∧AllBare s'.gens) s₁):
 WalkO q loose XP YP l.row.toRowW d [] (fun f vs=>PySem.call f vs):=by
 intro w s₀ s₁ mg mb G Y fa o pm cd doc dV kV ho hd rZ hD hmg hg args vals as jj hlay hrd JS hlo;obtain rfl:dV=.none:=Dflts.none hD HC
 obtain rfl:kV=.none:=Dflts.noKw hD
 obtain⟨a,vs,ns,rfl,rfl,hobj,hints,hlen⟩:=vp hn jj JS
 refine enter_call (codeAny_mono (call w s₀ s₁ mg mb fa o pm cd doc a vs ns G Y ho (fd_plain hd) rZ hmg hobj hints hlen hg) fun r s' hq=>?_)
 obtain⟨rfl,h2,h3,h4⟩:=hq
 exact⟨.inl ⟨.bool true,.bool true,[],rfl,fun _=>rfl,.bool true,vc l _,fun _=>⟨List.Pairwise.nil,fun _ hm=>(nomatch hm)⟩⟩,h2,h3,h4⟩
section
variable{prog:Program}{w:World}{A:Around}{E:Value→Shared→Prop}{s:Shared}{K:Frag}
def ledger(h:Heap)(L d:Addr):List (Addr×Obj):=(List.range h.objs.size).filterMap fun a=>if a=L∨a=d then none else(h.get? a).map fun o=>(a,o)
end
end Att
namespace L2
open PySem PySem.Spec PyProof.Rows
theorem mJ:∀{vs:List Value} {ns:List Int},IntsAre vs ns→Vals (ns.map V.int) vs
 |_,_,.nil=>.nil
 |_,_,.cons n t h=>.cons ⟨t,rfl⟩ (mJ h)
end L2
namespace L2
open PySem PySem.Spec PyProof.Rows
end L2
namespace L2
open PySem PySem.Spec PyProof.Rows
noncomputable def defArgs(s:Stmt):Arguments:=match s with
 |.FunctionDef _ a _ _ _ _ _ _ _ _=>a
 |_=>{posonlyargs:=[],args:=[],vararg:=none,kwonlyargs:=[],kw_defaults:=[],kwarg:=none,defaults:=[]}
def defBody(s:Stmt):List Stmt:=match s with
 |.FunctionDef _ _ b _ _ _ _ _ _ _=>b
 |_=>[]
def defScope(s:Stmt):Scope:=match s with
 |.FunctionDef _ _ _ _ _ _ sc _ _ _=>sc
 |_=>{kind:=.function,names:=[],isGenerator:=false,isCoroutine:=false}
structure Jj(K:PySem.W.Frag)(x qual:Str)(st:Stmt)(f:Addr)(fd:FuncData):Prop where
 ex:∃(oc:Value) (od:Option Addr) (kV doc pm:Value) (an:Option Addr) (eZ ct:Value) (rK:Array (Option Value)),
  fd=PySem.W.fnOf x qual (defArgs st) (defBody st) (defScope st) .none kV doc pm an eZ ct∧K.lookup f=some ⟨oc,od,.func fd,rK⟩∧PySem.W.codeIn K eZ qual=true
 kp:PySem.W.keepIn K (.ref f)=true
section
variable{P:Program}{w:World}{K:PySem.W.Frag}{mg:Str→Option Value}{base:Heap}
theorem Jj.binds{x qual:Str}{st:Stmt}{f:Addr}{fd:FuncData}{ps:List Str}(F:Jj K x qual st f fd)
 (h:∀(kV doc pm:Value) (an:Option Addr) (eZ ct:Value) (us:List Value),us.length=ps.length→bindArgs (PySem.W.fnOf x qual (defArgs st) (defBody st) (defScope st) .none kV doc pm an eZ ct) ⟨us,[]⟩=pure (ps.zip us)):Binds K fd ps []:=by
 obtain⟨oc,od,kV,doc,pm,an,eZ,ct,rK,rfl,lk,rZ⟩:=F.ex
 exact .all (h kV doc pm an eZ ct)
theorem xR{x qual:Str}{st:Stmt}{f:Addr}{oc:Value}{od an:Option Addr}{rK:Array (Option Value)}{kV doc pm eZ ct:Value}(l:K.lookup f=some ⟨oc,od,.func (PySem.W.fnOf x qual (defArgs st) (defBody st) (defScope st) .none kV doc pm an eZ ct),rK⟩)
 (c:PySem.W.codeIn K eZ qual=true) (k:PySem.W.keepIn K (.ref f)=true):Jj K x qual st f (PySem.W.fnOf x qual (defArgs st) (defBody st) (defScope st) .none kV doc pm an eZ ct):=⟨⟨oc,od,kV,doc,pm,an,eZ,ct,rK,rfl,l,c⟩,k⟩
end
section
variable{X:Cx}
theorem pv(i:Nat){x:Str}{pos:Pos}(hN:X.N[i]?=some x:=by rfl)(hv:Jd X.env.scope x:=by first|exact Or.inl rfl|exact Or.inr (Or.inl rfl)|exact Or.inr (Or.inr rfl))(hd:(x==("__debug__":Str))=false:=by decide)
 (rZ:(x==("__classdict__":Str))=false:=by decide):PE X (.Name x pos) (yt i):=eQ hN hv hd rZ
end
theorem LW{A B:Prop}(h:B):if false=true then A else B:=by
 rw [if_neg zzf];exact h
theorem Ld{A B:Prop}(h:A):if true=true then A else B:=by
 rw [if_pos rfl];exact h
def aF(H H':Hp):Prop:=∀b o,H b=some o→H' b=some o
theorem aF.refl(H:Hp):aF H H:=fun _ _ h=>h
theorem aF.trans{H H1 H2:Hp}(a:aF H H1)(b:aF H1 H2):aF H H2:=fun c o h=>b c o (a c o h)
theorem aF.free{H H':Hp}(e:aF H H'){l:Addr}(h:H' l=Option.none):H l=Option.none:=by
 cases q:H l with
 |none=>rfl
 |some o=>
  rw [e l o q] at h;cases h
theorem aF.seq{K:PySem.W.Frag}{H H':Hp}{a:Addr}{xs:List V}(e:aF H H')(h:gk K H a xs):gk K H' a xs:=by
 rcases h with(h|⟨o,h⟩)|h
 ·exact .inl (.inl (e _ _ h))
 ·exact .inl (.inr ⟨o,e _ _ h⟩)
 ·exact .inr h
end L2
set_option maxHeartbeats 8000000
namespace L2
open PySem PySem.Spec PyProof.Rows
open PySem.W (hideAll hideAll_get of_hideAll funFrames_hide)
structure BX(P:Program)(w:World)(outer:List Env)(H:Hp)(s:Shared)(E:XK)(a C t:Addr)(vs:List Value)(H':Hp)(B:Heap)(s':Shared):Prop where
 os:s'.os=s.os
 bare:AllBare s'.gens
 hok:dG P w H' B
 fly:Heap.FlyingW B outer a (.ref C) (.ref t) s'.heap
 tn:B.get? t=none
 tup:s'.heap.TupAt t vs
 keepB:∀b o,s.heap.get? b=some o→H b=none→b∉dZ outer→B.get? b=some o
 thereB:∀b o,s.heap.get? b=some o→b∉dZ outer→∃o',B.get? b=some o'
 un:Un (dZ outer) [] H H' s.heap s'.heap
 ends:E (.ref C) (some a) H'
def dy(P:Program)(w:World):qE:=fun outer H s E e s'=>∃a C t vs H' B,e=.ref a∧BX P w outer H s E a C t vs H' B s'
section
variable{P:Program}{w:World}{K:PySem.W.Frag}{mg:Str→Option Value}{base:Heap}{N:List Str}{qual:Str}{scope:Scope}{f:Addr}{cd:Value}{A:Around}{outer:List Env}{s0:Shared}{H0:Hp}{E:XK}
theorem iJ{X:Cx}{pins:List (Addr×Obj)}{σ:St}{H:Hp}{s:Shared}(I:Inv X pins σ H s){b:Addr}{o:Obj}(hl:X.env.locals=X.s₀.heap.objs.size)(q:X.s₀.heap.get? b=some o)(hb:b∉X.fs):b∉dZ X.stack:=fun z=>by
 rcases List.mem_cons.mp (I.stkSub b z) with e|e
 ·rw [hl] at e;exact absurd (Heap.lt_size q) (by rw [e];exact Nat.lt_irrefl _)
 ·exact hb e
theorem GQ:Passes (dy P w) (dn (dy P w) P w K mg base N qual scope f cd A outer s0 H0 E) E:=by
 rintro pins σ H s e s' I ⟨a,C,t,vs,H',B,rfl,F⟩
 have nx:∀b:Addr,b∉(dn (dy P w) P w K mg base N qual scope f cd A outer s0 H0 E).ex:=fun b z=>nomatch (show b∈([]:List Addr) from z)
 have keepB:∀b o,s0.heap.get? b=some o→H0 b=none→b∉dZ outer→B.get? b=some o:=fun b o q n hb=>
  F.keepB b o (I.base.keep b o q n hb (nx b)) (I.base.free b o q n (nx b)) (iJ I rfl q hb)
 have thereB:∀b o,s0.heap.get? b=some o→b∉dZ outer→∃o',B.get? b=some o':=fun b o q hb=>by
  obtain⟨o1,q1⟩:=I.base.there b o q (nx b)
  exact F.thereB b o1 q1 (iJ I rfl q hb)
 refine wpAny_leaves_onW I.ok.frames rfl F.fly fun h' x1 x2=>⟨a,C,t,vs,H',B,rfl,?_⟩
 have slot:∀b o,s0.heap.get? b=some o→H0 b=none→b∈dZ outer→∃sl,h'.get? b=some {o with slots:=sl}:=fun b o q n hb=>by
  obtain⟨sl,q1⟩:=I.base.slot b o q n hb (nx b)
  obtain⟨sl2,q2⟩:=F.un.any q1 (I.base.free b o q n (nx b)) (fun z=>nomatch z)
  obtain⟨_,o',q3,hd⟩:=F.fly.2.2.1.mem (b:=b) (List.mem_filterMap.mpr (let⟨v,h1,h2⟩:=List.mem_filterMap.mp hb;⟨v,.tail _ h1,h2⟩))
  rw [q2] at q3;cases q3;obtain⟨sl3,q4⟩:=x2 b _ q2 hd
  exact⟨sl3,q4⟩
 refine⟨F.os.trans I.os,F.bare,F.hok,x1,F.tn,F.tup.of_slots x2,keepB,thereB,⟨fun b o q n hb _=>x1.1 _ _ (keepB b o q n hb),fun b o q n hb _=>slot b o q n hb,fun b o q n _=>?_,fun b o q _=>?_,fun b xs q=>F.un.tups _ _ (I.base.tups _ _ q),fun b o u q=>F.un.frzs _ _ _ (I.base.frzs _ _ _ q),fun b ps q=>?_⟩,F.ends⟩
 ·obtain⟨sl,q1⟩:=I.base.any q n (nx b)
  exact F.un.free b _ q1 (I.base.free b o q n (nx b)) (fun z=>nomatch z)
 ·by_cases hb:b∈dZ outer
  ·obtain⟨sl,q1⟩:=slot b o q (I.ok.frf b hb) hb
   exact⟨_,q1⟩
  ·obtain⟨o',q1⟩:=thereB b o q hb
   exact⟨o',x1.1 _ _ q1⟩
 ·obtain⟨m1,q1⟩:=I.base.tbls b ps q
  obtain⟨m2,q2⟩:=F.un.tbls b _ q1
  exact⟨m1++m2,by rw [←Array.append_assoc];exact q2⟩
theorem EK{pins:List (Addr×Obj)}{σ:St}{H:Hp}{s:Shared}{h1:Heap}{e C:Addr}{us:List Value}(I:Inv (dn (dy P w) P w K mg base N qual scope f cd A outer s0 H0 E) pins σ H s)
 (hx:Heap.MadeExcOf s.heap h1 e (.ref C) us) (hE:E (.ref C) (some e) H):(dn (dy P w) P w K mg base N qual scope f cd A outer s0 H0 E).xe (.ref e) {s with heap:=h1}:=by
 have nx:∀b:Addr,b∉(dn (dy P w) P w K mg base N qual scope f cd A outer s0 H0 E).ex:=fun b z=>nomatch (show b∈([]:List Addr) from z)
 have GJ:∀env∈(dn (dy P w) P w K mg base N qual scope f cd A outer s0 H0 E).stack,∀b,env.frame=some b→b∈dZ (dn (dy P w) P w K mg base N qual scope f cd A outer s0 H0 E).stack:=fun env he b hb=>List.mem_filterMap.mpr ⟨env,he,hb⟩
 refine wpAny_leaves_madeW (h:=s.heap) I.ok.frames rfl (fun b o q=>of_hideAll _ q) (funFrames_hide I.stack GJ) hx fun h' t x1 x2 x3 x4=>⟨e,C,t,us,H,hideAll s.heap (dZ (dn (dy P w) P w K mg base N qual scope f cd A outer s0 H0 E).stack),rfl,?_⟩
 have keepB:∀b o,s0.heap.get? b=some o→H0 b=none→b∉dZ outer→(hideAll s.heap (dZ (dn (dy P w) P w K mg base N qual scope f cd A outer s0 H0 E).stack)).get? b=some o:=fun b o q n hb=>
  hideAll_get _ (I.base.keep b o q n hb (nx b)) (iJ I rfl q hb)
 have thereB:∀b o,s0.heap.get? b=some o→b∉dZ outer→∃o',(hideAll s.heap (dZ (dn (dy P w) P w K mg base N qual scope f cd A outer s0 H0 E).stack)).get? b=some o':=fun b o q hb=>by
  obtain⟨o1,q1⟩:=I.base.there b o q (nx b)
  exact⟨o1,hideAll_get _ q1 (iJ I rfl q hb)⟩
 have slot:∀b o,s0.heap.get? b=some o→H0 b=none→b∈dZ outer→∃sl,h'.get? b=some {o with slots:=sl}:=fun b o q n hb=>by
  obtain⟨sl,q1⟩:=I.base.slot b o q n hb (nx b)
  obtain⟨_,o',q3,hd⟩:=I.stack.mem (b:=b) (List.mem_filterMap.mpr (let⟨v,h1,h2⟩:=List.mem_filterMap.mp hb;⟨v,.tail _ h1,h2⟩))
  rw [q1] at q3;cases q3;obtain⟨sl3,q4⟩:=x4 b _ (hx.keeps _ _ q1) hd
  exact⟨sl3,q4⟩
 refine⟨I.os,I.bare,fun b o q=>?_,x1,x3,x2,keepB,thereB,⟨fun b o q n hb _=>x1.1 _ _ (keepB b o q n hb),fun b o q n hb _=>slot b o q n hb,fun b o q n _=>I.base.free b o q n (nx b),fun b o q _=>?_,I.base.tups,I.base.frzs,I.base.tbls⟩,hE⟩
 ·refine(I.hok b o q).stay (fun c v hc r=>hideAll_get _ r fun z=>?_) (fun _ q=>q) fun _ _ q=>q
  have z':=I.stkFree c z
  rcases hc with rfl|hc
  ·rw [q] at z';cases z'
  ·rw [hc] at z';cases z'
 ·by_cases hb:b∈dZ outer
  ·obtain⟨sl,q1⟩:=slot b o q (I.ok.frf b hb) hb
   exact⟨_,q1⟩
  ·obtain⟨o',q1⟩:=thereB b o q hb
   exact⟨o',x1.1 _ _ q1⟩
end
end L2
namespace L2
open PySem PySem.Spec PyProof.Rows
theorem iV{P:Program}{w:World}{H:Hp}{h:Heap}{a:Addr}{o:HO}(x:bV P w H h a o):∃o',h.get? a=some o':=by
 cases o with
 |lst xs=>obtain⟨_,_,_,_,e⟩:=x;exact⟨_,e⟩
 |tup xs=>obtain⟨_,_,_,o,e,_⟩:=x;exact⟨_,e⟩
 |dK aB=>obtain⟨_,_,_,_,o,_,_,e,_⟩:=x;exact⟨_,e⟩
 |dT aB=>obtain⟨_,_,_,_,o,_,_,e,_⟩:=x;exact⟨_,e⟩
 |set S n=>obtain⟨o,_,_,_,e,_⟩:=x;exact⟨_,e⟩
 |ins C dx fs=>obtain⟨_,_,_,e,_⟩:=x;exact⟨_,e⟩
 |own y=>exact x
 |xd fs=>obtain⟨_,⟨_,_,_,e,_⟩,_⟩:=x;exact⟨_,e⟩
 |rng lo hi=>obtain⟨_,_,_,e⟩:=x;exact⟨_,e⟩
 |frz ob u=>obtain⟨e,_⟩:=x;exact⟨_,e⟩
 |tbl ps=>exact⟨_,x⟩
 |met f y=>exact⟨_,x⟩
 |ext φ=>exact x.2.1
def DZ(C:Addr)(E:XK)(ta:TA):TS:=fun _ σ H=>ta σ H fun vs H1=>vs.length≤sizeLine∧∀e,H1 e=none→E (.ref C) (some e) H1
section
variable{P:Program}{w:World}{K:PySem.W.Frag}{mg:Str→Option Value}{base:Heap}{N:List Str}{qual:Str}{scope:Scope}{f:Addr}{cd:Value}{A:Around}{outer:List Env}{s0:Shared}{H0:Hp}{E:XK}
theorem yD{x:Str}{C:Addr}{Bn newId Ew:String}{bm:List Value}{e₀:Expr}{rest:List Expr}{np bC pos:Pos}{ta:TA}(hg:Gl (dn (dy P w) P w K mg base N qual scope f cd A outer s0 H0 E) x)(O:OwnCls x C bm newId mg base)(FB:ExcBaseFacts Bn newId Ew bm)
 (ha:PA (dn (dy P w) P w K mg base N qual scope f cd A outer s0 H0 E) (e₀::rest) ta)
 (he:starEach (e₀::rest) (dn (dy P w) P w K mg base N qual scope f cd A outer s0 H0 E).env=(false,eval e₀ (dn (dy P w) P w K mg base N qual scope f cd A outer s0 H0 E).env)::starEach rest (dn (dy P w) P w K mg base N qual scope f cd A outer s0 H0 E).env:=by rfl)
 (kl:(backTo bC (starEach rest (dn (dy P w) P w K mg base N qual scope f cd A outer s0 H0 E).env)).any (·.1)=false:=by rfl) (hd:(x==("__debug__":Str))=false:=by decide):
 PS (dn (dy P w) P w K mg base N qual scope f cd A outer s0 H0 E) (.Raise (some (.Call (.Name x np) (e₀::rest) [] bC)) none pos) (DZ C E ta):=by
 intro pins s σ H D I h;obtain⟨tl,Nn,nm,q,bs,hdct,sn,sub,ab,col,dd,k0,k1,k2,k3,k5,mN,hC,hN,hni,T⟩:=O.obj
 refine wpAny_Raise_call_subT (C:=C) (nm:=nm) (q:=q) (N:=Nn) (bs:=bs) (bm:=tl) (hdct:=hdct) (sn:=sn) (sub:=sub) (ab:=ab) (col:=col) (dd:=dd) (k0:=k0) (k1:=k1) (k2:=k2) (k3:=k3) (k5:=k5)
  FB (mN:=mN) (T.hasType FB.hasBase) (I.ok.hd rfl) (by rw [he];show(false||(backTo bC (starEach rest (dn (dy P w) P w K mg base N qual scope f cd A outer s0 H0 E).env)).any (·.1))=false;rw [kl];rfl) hni (fZ I hg O.bound ⟨rfl,?_⟩ hd)
 have h2:=ha bC pins s σ H _ I h
 rw [he] at h2⊢;refine Calls.evalArgs_plain (wpAny_mono h2 (fun us s2 ⟨vs,H1,I1,rv,hl,hE⟩=>?_) fun _ _ y=>y)
 refine⟨rfl,by rw [←rv.length];exact hl,I1.bk _ _ hC,hN.keeps I1.bk,T.keeps I1.bk,fun h1 e hx=>EK I1 hx (hE e ?_)⟩
 cases z:H1 e with
 |none=>rfl
 |some o=>
  obtain⟨o',eN⟩:∃o',s2.heap.get? e=some o':=by
   exact iV (I1.hok _ _ z)
  rw [hx.new] at eN;cases eN
end
end L2
namespace L2
open PySem PySem.Spec PyProof.Rows
def IG(a C:Addr):HO:=.ext fun h=>∃ob vs,h.get? a=some ob∧ob.cls=.ref C∧ob.data=.fields vs
section
variable{P:Program}{w:World}
theorem BX.fresh{outer:List Env}{H:Hp}{s s':Shared}{E:XK}{a C t:Addr}{vs:List Value}{H':Hp}{B:Heap}(F:BX P w outer H s E a C t vs H' B s'):H' a=none:=by
 cases z:H' a with
 |none=>rfl
 |some o=>
  obtain⟨o',eN⟩:=iV (F.hok _ _ z)
  rw [F.fly.2.1] at eN;cases eN
end
end L2
namespace L2
open PySem PySem.Spec PyProof.Rows
def bJ(env:Env)(ys:List Str):List (Str×Addr):=ys.map fun y=>(y,(env.cells.lookup y).getD 0)
def wQ(σ:St)(is:List Nat):St:=is.map fun i=>(σ[i]?).join
def jY(scope:Scope)(x:Str):Bool:=scope.names.lookup x==some .cell
theorem rk{x:Str}{c:Addr}:∀(names:List (Str×NameKind)) (n:Nat) (acc:List (Str×Addr)),(x,c)∈cellsFrom n names acc→(x,c)∈acc∨(x,NameKind.cell)∈names∧n≤c
 |[],n,acc,h=>by rw [cellsFrom.eq_def] at h;exact .inl h
 | (y,k)::r,n,acc,h=>by
  rw [cellsFrom.eq_def] at h;dsimp only at h;split at h
  ·rename_i hk;cases eq_of_beq hk;rcases rk r (n+1) _ h with z|⟨z1,z2⟩
   ·rcases List.mem_cons.mp z with z|z
    ·cases z;exact .inr ⟨List.mem_cons_self ..,Nat.le_refl _⟩
    ·exact .inl z
   ·exact .inr ⟨List.mem_cons_of_mem _ z1,Nat.le_of_succ_le z2⟩
  ·rcases rk r n _ h with z|⟨z1,z2⟩
   ·exact .inl z
   ·exact .inr ⟨List.mem_cons_of_mem _ z1,z2⟩
theorem nT{x:Str}{c:Addr}:∀(names:List (Str×NameKind)) (n:Nat) (acc:List (Str×Addr)),(cellsFrom n names acc).lookup x=some c→acc.lookup x=some c∨(x,NameKind.cell)∈names∧n≤c
 |[],n,acc,h=>by rw [cellsFrom.eq_def] at h;exact .inl h
 | (y,k)::r,n,acc,h=>by
  rw [cellsFrom.eq_def] at h;dsimp only at h;split at h
  ·rename_i hk;cases eq_of_beq hk;rcases nT r (n+1) _ h with z|⟨z1,z2⟩
   ·rw [List.lookup_cons] at z;cases e:x==y with
    |true=>rw [e] at z;cases z;cases eq_of_beq e;exact .inr ⟨List.mem_cons_self ..,Nat.le_refl _⟩
    |false=>rw [e] at z;exact .inl z
   ·exact .inr ⟨List.mem_cons_of_mem _ z1,Nat.le_of_succ_le z2⟩
  ·rcases nT r n _ h with z|⟨z1,z2⟩
   ·exact .inl z
   ·exact .inr ⟨List.mem_cons_of_mem _ z1,z2⟩
theorem nB{x:Str}:∀(names:List (Str×NameKind)) (n:Nat) (acc:List (Str×Addr)),(x,NameKind.cell)∉names→(cellsFrom n names acc).lookup x=acc.lookup x
 |[],n,acc,_=>by rw [cellsFrom.eq_def]
 |(y,k)::r,n,acc,h=>by
  rw [cellsFrom.eq_def];dsimp only;have hr:(x,NameKind.cell)∉r:=fun z=>h (List.mem_cons_of_mem _ z)
  split
  ·rename_i hk;cases eq_of_beq hk;rw [nB r (n+1) _ hr,List.lookup_cons];cases e:x==y with
   |true=>cases eq_of_beq e;exact absurd (List.mem_cons_self ..) h
   |false=>rfl
  ·exact nB r n acc hr
theorem Fg{x:Str}{c:Addr}:∀(names:List (Str×NameKind)) (n:Nat) (acc:List (Str×Addr)),(x,c)∈cellsFrom n names acc→(∀p∈acc,p.2≠c)→(x,c)∈cellsFrom n names []
 |names,n,acc,h,ha=>by
  have key:∀(names:List (Str×NameKind)) (n:Nat) (acc b:List (Str×Addr)),(x,c)∈cellsFrom n names (b++acc)→(∀p∈acc,p.2≠c)→(x,c)∈cellsFrom n names b:=by
   intro names
   induction names with
   |nil=>
    intro n acc b h ha;rw [cellsFrom.eq_def] at h⊢;rcases List.mem_append.mp h with z|z
    ·exact z
    ·exact absurd rfl (ha _ z)
   |cons y r ih=>
    intro n acc b h ha;obtain⟨y,k⟩:=y
    rw [cellsFrom.eq_def] at h⊢;dsimp only at h⊢;split at h
    ·rename_i hk;rw [if_pos hk];exact ih (n+1) acc ((y,n)::b) h ha
    ·rename_i hk;rw [if_neg hk];exact ih n acc b h ha
  exact key names n acc [] h ha
theorem ng{x y:Str}{c:Addr}:∀(names:List (Str×NameKind)) (n:Nat) (acc:List (Str×Addr)),(∀p∈acc,p.2<n)→n≤c→(x,c)∈cellsFrom n names acc→(y,c)∈cellsFrom n names acc→x=y
 |[],n,acc,ha,hc,h1,h2=>by
  rw [cellsFrom.eq_def] at h1;exact absurd (ha _ h1) (Nat.not_lt.mpr hc)
 | (z,k)::r,n,acc,ha,hc,h1,h2=>by
  rw [cellsFrom.eq_def] at h1 h2;dsimp only at h1 h2;split at h1
  ·rename_i hk;rw [if_pos hk] at h2;have OF:∀p∈(z,n)::acc,p.2<n+1:=fun p hp=>by
    rcases List.mem_cons.mp hp with q|q
    ·rw [q];exact Nat.lt_succ_self _
    ·exact Nat.lt_succ_of_lt (ha p q)
   by_cases hn:n+1≤c
   ·exact ng r (n+1) _ OF hn h1 h2
   ·have one:∀{w:Str},(w,c)∈cellsFrom (n+1) r ((z,n)::acc)→w=z:=fun{w} h=>by
     rcases rk r (n+1) _ h with q|q
     ·rcases List.mem_cons.mp q with q|q
      ·cases q;rfl
      ·exact absurd (ha _ q) (Nat.not_lt.mpr hc)
     ·exact absurd q.2 hn
    rw [one h1,one h2]
  ·rename_i hk;rw [if_neg hk] at h2;exact ng r n acc ha hc h1 h2
theorem rX{M:Model}{A:Around}{E:Value→Shared→Prop}{s:Shared}{scope:Scope}{g:Addr}{cl:List (Str×Addr)}{qual:Str}{around:Env}{Q:Env→Shared→Prop}
 (h:Q (newEnv scope s.heap.objs.size g (cellsFrom (s.heap.objs.size+1) scope.names cl) qual none .none (some around) builtinsNs) {s with heap:=pushCells (s.heap.push {cls:=.type "dict",data:=.dict #[]}) scope.names}):
 wpAny M A (newFunctionEnv scope g cl [] qual none .none (some around)) Q E s:=by
 unfold newFunctionEnv;refine wpAny_bind (wpAny_alloc ?_);refine wpAny_bind (wpAny_forIn_list _ (fun rest b s'=>s'={s with heap:=s'.heap}∧pushCells s'.heap rest=pushCells (s.heap.push {cls:=.type "dict",data:=.dict #[]}) scope.names∧cellsFrom s'.heap.objs.size rest b=cellsFrom (s.heap.objs.size+1) scope.names cl) _ (fun x rest b s' hI=>?_) (fun b s' hI=>?_) scope.names cl ⟨rfl,rfl,by rw [Heap.size_push]⟩)
 ·obtain⟨h1,h2,h3⟩:=hI
  obtain⟨nm,k⟩:=x
  rw [pushCells.eq_def] at h2;rw [cellsFrom.eq_def] at h3;dsimp only at h2 h3⊢;split
  ·rename_i hk;rw [if_pos hk] at h2 h3;refine wpAny_bind (wpAny_alloc (wpAny_pure ⟨by rw [h1],h2,?_⟩));dsimp only;rw [Heap.size_push];exact h3
  ·rename_i hk;rw [if_neg hk] at h2 h3;exact wpAny_pure ⟨h1,h2,h3⟩
 ·obtain⟨h1,h2,h3⟩:=hI
  rw [pushCells.eq_def] at h2;rw [cellsFrom.eq_def] at h3;dsimp only at h2 h3;subst h3;rw [h1,h2];exact wpAny_bind (wpAny_pure (wpAny_pure h))
noncomputable def bW(X:Cx)(N':List Str)(scope:Scope)(cl:List (Str×Addr))(fp:List Addr)(s₁:Shared)(H₁:Hp)(C:Addr):Cx where
 prog:=X.prog
 w:=X.w
 K:=X.K
 mg:=X.mg
 base:=X.base
 A:=X.A
 N:=N'
 s₀:=s₁
 H₀:=H₁
 env:=compEnvC scope (cellsFrom (C+1) scope.names cl) C X.env
 outer:=X.stack
 stack:=X.stack
 ex:=fp
 fn:=jY scope
 calm:=true
 pn:=[]
 xe:=fun _ _=>False
theorem dM{env:Env}:∀{ys:List Str},(ys.all fun y=>(env.cells.lookup y).isSome)=true→∀(x:Str) (c:Addr),(bJ env ys).lookup x=some c→env.cells.lookup x=some c
 |[],_,_,_,h=>by simp [bJ] at h
 |y::ys,ha,x,c,h=>by
  rw [List.all_cons,zza] at ha;have ih:=dM (env:=env) ha.2 x c
  unfold bJ at h ih;rw [List.map_cons,List.lookup_cons] at h;cases e:x==y with
  |true=>
   rw [e] at h;have LR:x=y:=beq_iff_eq.mp e
   subst LR;obtain⟨c',gD⟩:=Option.isSome_iff_exists.mp ha.1
   rw [gD] at h⊢;exact h
  |false=>
   rw [e] at h;exact ih h
theorem gR{env:Env}:∀{ys:List Str} {x:Str},x∈ys→∃c,(bJ env ys).lookup x=some c
 |[],_,h=>nomatch h
 |y::ys,x,h=>by
  unfold bJ;rw [List.map_cons,List.lookup_cons];cases e:x==y with
  |true=>exact⟨_,rfl⟩
  |false=>
   have hx:x∈ys:=by
    rcases List.mem_cons.mp h with z|z
    ·rw [z] at e;simp at e
    ·exact z
   exact gR (env:=env) hx
theorem iP{scope:Scope}{env:Env}{x:Str}{k:NameKind}(h:(relabel scope env).names.lookup x=some k)(hk:k=.cell∨k=.free):∃k',(x,k')∈scope.names∧(k'=.cell∨k'=.free):=by
 have hm:=PySem.mem_of_lookup h
 unfold relabel at hm;obtain⟨⟨n,k0⟩,h0,e⟩:=List.mem_map.mp hm
 dsimp only at e;split at e
 ·rename_i hc;cases e;refine⟨k0,h0,.inr ?_⟩;rw [zza,zza] at hc;exact beq_iff_eq.mp hc.1.1
 ·cases e;exact⟨k,h0,hk⟩
structure dQ(X:Cx)(scope:Scope)(xs ys:List Str)(is:List Nat):Prop where
 kind:scope.kind=.function
 clos:closureFor scope X.env=pure (bJ X.env ys)
 cells:(ys.all fun y=>(X.env.cells.lookup y).isSome)=true
 cov:(scope.names.all fun y=>(decide (y.2≠.cell)||!ys.contains y.1)&&(decide (y.2≠.free)||ys.contains y.1))=true
 own:(scope.names.all fun y=>decide (y.2≠.cell)||decide (scope.names.lookup y.1=some .cell))=true
 names:(scope.names.all fun y=>decide (y.2≠.local)||decide (scope.names.lookup y.1=some .local))=true
 slots:is.map (fun i=>X.N[i]?)=ys.map some
 kX:(ys.all fun y=>decide (X.env.kindOf y=some .cell))=true
 kY:(ys.all fun y=>decide ((relabel scope X.env).names.lookup y=some .cell))=true
section
variable{X:Cx}{pins:List (Addr×Obj)}{σ:St}{H:Hp}{s:Shared}{scope:Scope}{xs ys:List Str}{is:List Nat}
theorem dQ.ownL(S:dQ X scope xs ys is){x:Str}(h:(x,NameKind.cell)∈scope.names):scope.names.lookup x=some .cell∧x∉ys:=by
 have q:=List.all_eq_true.mp S.own _ h
 have c:=List.all_eq_true.mp S.cov _ h
 rw [zza,Bool.or_eq_true] at c;rw [Bool.or_eq_true] at q;refine⟨of_decide_eq_true (q.resolve_left fun z=>of_decide_eq_true z rfl),fun hy=>?_⟩
 rcases c.1 with z|z
 ·exact of_decide_eq_true z rfl
 ·rw [List.contains_iff_mem.mpr hy] at z;cases z
theorem fj(I:Inv X pins σ H s)(S:dQ X scope xs ys is){C:Addr}(hC:s.heap.objs.size≤C){x:Str}{c:Addr}(h:(cellsFrom (C+1) scope.names (bJ X.env ys)).lookup x=some c):
 (X.env.cells.lookup x=some c∧c<s.heap.objs.size∧x∈ys)∨((x,NameKind.cell)∈scope.names∧C+1≤c):=by
 rcases nT _ _ _ h with z|z
 ·have e:=dM S.cells x c z
  obtain⟨v,q⟩:=I.cell x c e
  refine .inl ⟨e,q.lt,?_⟩;have hm:=PySem.mem_of_lookup z
  unfold bJ at hm;obtain⟨y,hy,e2⟩:=List.mem_map.mp hm
  cases e2;exact hy
 ·exact .inr z
theorem uE(I:Inv X pins σ H s)(hc:X.calm=true)(S:dQ X scope xs ys is){N':List Str}{fp:List Addr}{C:Addr}(hC:s.heap.objs.size≤C)(hf:∀b∈fp,eo X pins H b)(BM:∀b∈fp,b<s.heap.objs.size):
 (bW X N' scope (bJ X.env ys) fp s H C).Ok where
 mod:=I.ok.mod
 kind:=S.kind
 glob:=I.ok.glob
 blt:=I.ok.blt
 above:=hC
 inj:=fun x y c h1 h2=>by
  rcases fj I S hC h1 with z1|z1
  ·rcases fj I S hC h2 with z2|z2
   ·exact I.ok.inj x y c z1.1 z2.1
   ·exact absurd z1.2.1 (Nat.not_lt.mpr (Nat.le_trans hC (Nat.le_of_succ_le z2.2)))
  ·refine ng scope.names (C+1) (bJ X.env ys) (fun p hp=>?_) z1.2 (PySem.mem_of_lookup h1) (PySem.mem_of_lookup h2);unfold bJ at hp;obtain⟨y,hy,rfl⟩:=List.mem_map.mp hp
   obtain⟨c',gD⟩:=Option.isSome_iff_exists.mp (List.all_eq_true.mp S.cells y hy)
   obtain⟨v,q⟩:=I.cell y c' gD
   dsimp only;rw [gD];exact Nat.lt_succ_of_le (Nat.le_trans (Nat.le_of_lt q.lt) hC)
 has:=fun x hx=>by
  have uX:(relabel scope X.env).names.lookup x=some .cell∨(relabel scope X.env).names.lookup x=some .free:=hx
  have:∃k',(x,k')∈scope.names∧(k'=.cell∨k'=.free):=by
   rcases uX with z|z
   ·exact iP z (.inl rfl)
   ·exact iP z (.inr rfl)
  obtain⟨k',hm,hk⟩:=this
  have cv:=List.all_eq_true.mp S.cov _ hm
  rw [zza,Bool.or_eq_true,Bool.or_eq_true] at cv;rcases hk with z|z
  ·subst z;exact Option.isSome_iff_exists.mp (PySem.W.cellsFrom_some _ _ _ (.inl (S.ownL hm).1))
  ·rcases cv.2 with q|q
   ·exact absurd z (of_decide_eq_true q)
   ·refine Option.isSome_iff_exists.mp (PySem.W.cellsFrom_some _ _ _ (.inr ?_));obtain⟨c,e⟩:=gR (env:=X.env) (List.contains_iff_mem.mp q)
    rw [e];rfl
 cab:=fun x c h e=>by
  have hm:(x,NameKind.cell)∈scope.names:=PySem.mem_of_lookup (eq_of_beq h)
  rcases fj I S hC e with z|z
  ·exact absurd z.2.2 (S.ownL hm).2
  ·exact Nat.le_trans hC (Nat.le_of_succ_le z.2)
 hd:=fun _=>I.ok.hd hc
 frames:=I.ok.frames
 stk:=.inl rfl
 exf:=fun b hb=>⟨Nat.ne_of_lt (Nat.lt_of_lt_of_le (BM b hb) hC),fun x c h=>(fj I S hC h).elim (fun z=>(hf b hb).2.2.2.2.1 x c z.1) fun z q=>absurd (BM b hb) (Nat.not_lt.mpr (q▸Nat.le_trans hC (Nat.le_of_succ_le z.2)))⟩
 bs:=fun b o e=>I.bs b o e
 bsz:=Nat.le_trans I.ok.bsz I.sz
 noex:=fun b o e hb=>by
  rcases(hf b hb).2.2.2.1 with z|z
  ·exact I.ok.noex b o e z
  ·exact absurd (Nat.lt_of_lt_of_le (Heap.lt_size e) (Nat.le_trans I.ok.bsz z)) (Nat.lt_irrefl _)
 exfs:=fun b hb hs=>(List.mem_cons.mp (I.stkSub b hs)).elim (hf b hb).2.1 (hf b hb).2.2.1
 funs:=I.stack
 frf:=fun b hb=>I.stkFree b hb
theorem sP{N:List Str}:∀{is:List Nat} {ys:List Str},is.map (fun i=>N[i]?)=ys.map some→∀(j:Nat) (y:Str) (v:V),ys[j]?=some y→(wQ σ is)[j]?=some (some v)→∃i:Nat,N[i]?=some y∧σ[i]?=some (some v)
 |[],[],_,_,_,_,h,_=>by simp at h
 |[],_::_,h,_,_,_,_,_=>by simp at h
 |_::_,[],h,_,_,_,_,_=>by simp at h
 |i::is,y0::ys,h,0,y,v,h1,h2=>by
  rw [List.map_cons,List.map_cons] at h;have h0:=(List.cons.inj h).1
  simp only [List.getElem?_cons_zero,Option.some.injEq] at h1;subst h1;refine⟨i,h0,?_⟩;unfold wQ at h2;simp only [List.map_cons,List.getElem?_cons_zero,Option.some.injEq] at h2;exact Option.join_eq_some_iff.mp h2
 |i::is,y0::ys,h,j+1,y,v,h1,h2=>by
  rw [List.map_cons,List.map_cons] at h;refine sP (is:=is) (ys:=ys) (List.cons.inj h).2 j y v (by simpa using h1) ?_;unfold wQ at h2⊢
  simpa using h2
abbrev lobj(aD:List Value)(n:Nat):Obj:={cls:=.type "list",data:=.seq aD.toArray n}
theorem uH(aD:List Value)(n:Nat)(v:Option Value):(lobj aD n).data≠.cell v:=fun z=>by cases z
abbrev tests(ifs:List Expr)(env:Env):Sem Bool:=forIn ifs true fun c r=>if r=true then do let ok←isTrue c env (eval c env);pure (ForInStep.yield ok) else pure (ForInStep.yield r)
theorem nW{prog:Program}{w:World}{A:Around}{R:Result→Shared→Prop}{s:Shared}{elt target iter:Expr}{ifs:List Expr}{scope:Scope}{pos:Pos}{it acc:Value}{env:Env}(I:Nat→Shared→Prop)
 (turn:∀n s,I n s→wpAny (model prog w) A (pyNext it) (fun r s₁=>match r with
  |none=>R (.ok .next) s₁
  |some v=>wpAny (model prog w) A (letOwnedTupleGo target it v) (fun _ s₁'=>wpAny (model prog w) A (assign target env v) (fun _ s₂=>
   wpAny (model prog w) A (tests ifs env) (fun ok s₃=>if ok=true then wpAny (model prog w) A (eval elt env) (fun x s₄=>
    wpAny (model prog w) A (call (.builtin "list.append") [acc,x]) (fun _ s₅=>∃m,m<n∧I m s₅) (notedBy (model prog w) A env fun e s'=>R (.error e) s') s₄) (notedBy (model prog w) A env fun e s'=>R (.error e) s') s₃
    else∃m,m<n∧I m s₃) (notedBy (model prog w) A env fun e s'=>R (.error e) s') s₂)
   (notedBy (model prog w) A env fun e s'=>R (.error e) s') s₁') (notedBy (model prog w) A env fun e s'=>R (.error e) s') s₁) (notedBy (model prog w) A env fun e s'=>R (.error e) s') s)
 (n:Nat) (h:I n s):
 codeAny (model prog w) A (.compLoop (.ListComp elt [⟨target,iter,ifs,0⟩] scope pos) 0 it acc env) R s:=by
 refine codeAny_loop rfl I (fun n s hI=>?_) n h;show wpAny _ A ((compTurn (.ListComp elt [⟨target,iter,ifs,0⟩] scope pos) 0 it acc env).onRaise (fun x=>do noteFrame x env;theTreesLotGoes x)) _ _ s;refine wpAny_noted ?_;rw [compTurn_list];refine wpAny_bind (wpAny_standAt (wpAny_bind (wpAny_mono (turn n s hI) (fun r s₁ h₁=>?_) fun _ _ h'=>h')))
 cases r with
 |none=>exact wpAny_pure h₁
 |some v=>
  refine wpAny_bind (wpAny_mono h₁ (fun _ s₁' h₁'=>?_) fun _ _ h'=>h')
  refine wpAny_bind (wpAny_mono h₁' (fun _ s₂ h₂=>wpAny_bind (wpAny_mono h₂ (fun ok s₃ h₃=>?_) fun _ _ h'=>h')) fun _ _ h'=>h')
  cases ok with
  |false=>exact wpAny_pure ⟨rfl,h₃⟩
  |true=>exact wpAny_bind (wpAny_bind (wpAny_mono h₃ (fun x s₄ h₄=>wpAny_bind (wpAny_mono h₄ (fun _ s₅ h₅=>wpAny_pure (wpAny_pure ⟨rfl,h₅⟩)) fun _ _ h'=>h')) fun _ _ h'=>h'))
def KA(X:Cx)(ifs:List Expr)(t:TT):Prop:=
 ∀(pins:List (Addr×Obj)) (s:Shared) (σ:St) (H:Hp) (Q:Bool→Hp→Prop),Inv X pins σ H s→t σ H Q→wpAny (model X.prog X.w) X.A (tests ifs X.env) (TP X pins σ Q) X.xe s
theorem uk{X:Cx}:KA X [] (fun _ H q=>q true H):=fun _ _ _ H _ I h=>wpAny_tests_nil ⟨H,I,h⟩
theorem sQ{X:Cx}{e:Expr}{t:TT}(h:PT X e t):KA X [e] t:=fun pins s σ H Q I z=>wpAny_tests_one (h pins s σ H Q I z)
def Hj(J:It)(k:Nat)(g:TG)(te:TE)(fs:St)(Q:VK)(H1:Hp):Prop:=∃(n:Nat) (W:Nat→List V→St→Hp→Prop),W 0 [] (List.replicate k none++fs) H1∧
 ∀i ys σ' H',W i ys σ' H'→ys.length<sizeLine∧((J.stop i H'∧∀p,H' p=none→Q (.ref p) (upd H' p (.lst ys)))∨
  (J.go i H'∧i<n∧∀x k8,J.yld i H' x k8→g x σ' k8 fun σ2 H2=>te σ2 H2 fun y H3=>W (i+1) (ys++[y]) σ2 H3))
noncomputable def yE(wi:TI)(k:Nat)(g:TG)(te:TE)(is:List Nat):TE:=fun σ H Q=>wi σ H fun J H1=>Hj J k g te (wQ σ is) Q H1
def zY(J:It)(k:Nat)(g:TG)(tt:TT)(te:TE)(fs:St)(Q:VK)(H1:Hp):Prop:=∃(n:Nat) (W:Nat→List V→St→Hp→Prop),W 0 [] (List.replicate k none++fs) H1∧
 ∀i ys σ' H',W i ys σ' H'→ys.length<sizeLine∧((J.stop i H'∧∀p,H' p=none→Q (.ref p) (upd H' p (.lst ys)))∨
  (J.go i H'∧i<n∧∀x k8,J.yld i H' x k8→g x σ' k8 fun σ2 H2=>tt σ2 H2 fun b H3=>if b=true then te σ2 H3 (fun y H4=>W (i+1) (ys++[y]) σ2 H4) else W (i+1) ys σ2 H3))
noncomputable def i8(wi:TI)(k:Nat)(g:TG)(tt:TT)(te:TE)(is:List Nat):TE:=fun σ H Q=>wi σ H fun J H1=>zY J k g tt te (wQ σ is) Q H1
theorem fX{elt tg iter:Expr}{ifs:List Expr}{pos pp:Pos}{wi:TI}{g:TG}{te:TE}{tt:TT}{use:Option (Value→Sem Unit)}{QQ:Value→Shared→Prop}{Q:VK}(hc:X.calm=true)(S:dQ X scope xs ys is)(hi:PI X tg iter wi)
 (hg:∀fp s1 H1 C,PG (bW X (xs++ys) scope (bJ X.env ys) fp s1 H1 C) tg g) (ht:∀fp s1 H1 C,KA (bW X (xs++ys) scope (bJ X.env ys) fp s1 H1 C) ifs tt) (he:∀fp s1 H1 C,PE (bW X (xs++ys) scope (bJ X.env ys) fp s1 H1 C) elt te)
 (hs:∀x,foldedSetIterable iter X.env x=pure x) (I:Inv X pins σ H s) (h:i8 wi xs.length g tt te is σ H Q)
 (fin:∀(D C:Addr) (s4:Shared) (H4:Hp) (m:Str→Option Value),Inv X pins σ H4 s4→s4.heap.Ns C m→eo X pins H4 C→Q (.ref D) H4→compPost (model X.prog X.w) X.A X.xe use QQ (.ref D) C (.ok .next) s4):
 wpAny (model X.prog X.w) X.A (comprehension (.ListComp elt [⟨tg,iter,ifs,0⟩] scope pos) scope X.env pp (newList []) false (eval iter X.env) use) QQ X.xe s:=by
 have FV:∀x∈scope.names,x.2=.local→scope.names.lookup x.1=some .local:=fun x hx hl=>by
  have q:=List.all_eq_true.mp S.names x hx
  rw [Bool.or_eq_true] at q;rcases q with q|q
  ·exact absurd hl (of_decide_eq_true q)
  ·exact of_decide_eq_true q
 refine wpAny_comprehension_free (use:=use) (Q:=QQ) (g:=⟨tg,iter,ifs,0⟩) (gs:=[]) rfl hs S.clos S.kind FV (bR (hi pins s σ H _ I h) fun xv s0 h0=>bR h0 fun J9 s1 h1=>?_)
 obtain⟨it,fp,tn,J,H1,rfl,I1,T,CA,f1,n,W,w0,turn⟩:=h1
 refine wpAny_newObj_type (rX ?_);dsimp only;generalize hH2:s1.heap.push {cls:=.type "list",dict:=none,data:=.seq ([]:List Value).toArray}=G2
 generalize hh₁:pushCells (G2.push {cls:=.type "dict",data:=.dict #[]}) scope.names=h₁
 have JL:∀b o,(G2.push {cls:=.type "dict",data:=.dict #[]}).get? b=some o→h₁.get? b=some o:=fun b o e=>by rw [←hh₁];exact pushCells_keeps _ _ b o e
 have hns₁:h₁.Ns G2.objs.size fun _=>none:=(Heap.Ns.new G2 (.type "dict")).keeps JL
 have MF:G2.objs.size=s1.heap.objs.size+1:=by rw [←hH2,Heap.size_push]
 have lE:s1.heap.objs.size≤G2.objs.size:=by rw [MF];exact Nat.le_succ _
 have Jx:s1.heap.objs.size≠G2.objs.size:=by rw [MF];exact Nat.ne_of_lt (Nat.lt_succ_self _)
 have old:∀b o,s1.heap.get? b=some o→h₁.get? b=some o:=fun b o e=>JL b o (Heap.get?_push_of_some _ (hH2▸Heap.get?_push_of_some _ e))
 have DC:h₁.get? s1.heap.objs.size=some (lobj [] 0):=JL _ _ (Heap.get?_push_of_some _ (hH2▸Heap.get?_push_size _ rfl))
 have BM:∀b∈fp,b<s1.heap.objs.size:=fun b hb=>by
  obtain⟨o,e,_⟩:=T.obj _ _ CA b hb
  exact Heap.lt_size e
 generalize hY:bW X (xs++ys) scope (bJ X.env ys) fp s1 H1 G2.objs.size=Y
 have NZ:Y.Ok:=by rw [←hY];exact uE I1 hc S lE f1 BM
 have MJ:∀b∈fp,s1.heap.objs.size≠b:=fun b hb=>Ne.symm (Nat.ne_of_lt (BM b hb))
 have Ka:∀b,b∈Y.fs→b=X.env.locals∨b∈X.fs:=fun b hb=>by
  rw [←hY] at hb;exact List.mem_cons.mp (I1.stkSub b hb)
 have KD:∀b∈Y.fs,b<s1.heap.objs.size:=fun b hb=>by
  rw [←hY] at hb;obtain⟨_,o,ho,_⟩:=I1.stack.mem hb
  exact Heap.lt_size ho
 have KS:s1.heap.objs.size∉Y.fs:=fun z=>Nat.lt_irrefl _ (KD _ z)
 have FI:Y.env.locals=G2.objs.size:=by rw [←hY];rfl
 have Jm:∀x c,Y.env.cells.lookup x=some c→(X.env.cells.lookup x=some c∧c<s1.heap.objs.size∧x∈ys)∨((x,NameKind.cell)∈scope.names∧G2.objs.size+1≤c):=fun x c e=>by
  rw [←hY] at e;exact fj I1 S lE e
 have Oa:∀x c,Y.env.cells.lookup x=some c→G2.objs.size+1≤c→h₁.IsCell c none:=fun x c e hle=>by
  rw [←hY] at e;have hm:(x,c)∈cellsFrom (G2.objs.size+1) scope.names []:=Fg scope.names _ _ (PySem.mem_of_lookup e) fun p hp=>by
   unfold bJ at hp;obtain⟨y,hy,rfl⟩:=List.mem_map.mp hp
   obtain⟨c',gD⟩:=Option.isSome_iff_exists.mp (List.all_eq_true.mp S.cells y hy)
   obtain⟨v,q⟩:=I1.cell y c' gD
   dsimp only;rw [gD];exact Nat.ne_of_lt (Nat.lt_of_lt_of_le q.lt (Nat.le_trans lE (Nat.le_of_succ_le hle)))
  have ck:=cellsFrom_ok scope.names (G2.push {cls:=.type "dict",data:=.dict #[]}) 0 [] ⟨(fun _ _ z=>nomatch z),.nil⟩ (Nat.zero_le _)
  rw [Heap.size_push,hh₁] at ck;exact(ck.empty x c hm).1
 have OY:∀x c,Y.env.cells.lookup x=some c→c≠s1.heap.objs.size:=fun x c e=>(Jm x c e).elim (fun z=>Nat.ne_of_lt z.2.1) fun z=>Ne.symm (Nat.ne_of_lt (Nat.lt_of_le_of_lt lE z.2))
 have xK:Y.pn=[]:=by rw [←hY];rfl
 have HB:Y.ex=fp:=by rw [←hY];rfl
 have HA:Y.s₀=s1:=by rw [←hY];rfl
 have MK:Y.H₀=H1:=by rw [←hY];rfl
 have I0:Y.prog=X.prog:=by rw [←hY];rfl
 have HU:Y.w=X.w:=by rw [←hY];rfl
 have MH:Y.K=X.K:=by rw [←hY];rfl
 have Ky:Y.A=X.A:=by rw [←hY];rfl
 have OA:compEnvC scope (cellsFrom (G2.objs.size+1) scope.names (bJ X.env ys)) G2.objs.size X.env=Y.env:=by rw [←hY];rfl
 have IA:Y.calm=true:=by rw [←hY];rfl
 have DN:Y.xe=fun _ _=>False:=by rw [←hY];rfl
 have Hf:Y.fs=dZ X.stack:=by rw [←hY];rfl
 have Ib:∀{H':Hp} {s':Shared} {aD:List Value} {k:Nat},s'.heap.get? s1.heap.objs.size=some (lobj aD k)→H' s1.heap.objs.size=none→∀p∈[(s1.heap.objs.size,lobj aD k)],s'.heap.get? p.1=some p.2∧H' p.1=none∧p.1≠Y.env.locals∧p.1∉Y.fs∧∀v,p.2.data≠.cell v:=
  fun{H' s' aD k} e hn p hp=>by
   obtain rfl:=List.mem_singleton.mp hp
   exact⟨e,hn,by rw [FI];exact Jx,KS,fun v=>uH aD k v⟩
 have KI:∀{H':Hp} {aD:List Value} {k:Nat},(∀b∈fp,H' b=none)→∀b∈fp,eo Y [(s1.heap.objs.size,lobj aD k)] H' b:=fun{H' aD k} hn b hb=>
  ⟨hn b hb,by rw [FI];exact Nat.ne_of_lt (Nat.lt_of_lt_of_le (BM b hb) lE),fun z=>(Ka b z).elim (f1 b hb).2.1 (f1 b hb).2.2.1,.inl (by rw [HB];exact hb),
   fun x c e=>(Jm x c e).elim (fun z=>(f1 b hb).2.2.2.2.1 x c z.1) (fun z q=>absurd (BM b hb) (Nat.not_lt.mpr (q▸Nat.le_trans lE (Nat.le_of_succ_le z.2)))),fun p hp=>by
    rw [xK,List.nil_append] at hp;obtain rfl:=List.mem_singleton.mp hp
    exact MJ b hb⟩
 have HW:H1 s1.heap.objs.size=none:=I1.hok.fresh (Nat.le_refl _)
 have I2:∀tk,Inv Y [(s1.heap.objs.size,lobj [] 0)] (List.replicate xs.length none++wQ σ is) H1 {s1 with heap:=h₁,toks:=tk}:=fun tk=>by
  refine⟨NZ,by rw [HA],I1.bare,by rw [HA,MK];exact Un.kept old,⟨_,by rw [FI];exact hns₁,fun i x v e1 e2 e3=>?_⟩,fun x c e=>?_,?_,fun x c e=>(Jm x c e).elim (fun z=>I1.freeC x c z.1) (fun z=>I1.hok.fresh (Nat.le_trans lE (Nat.le_of_succ_le z.2))),fun p hp=>?_,by rw [I0,HU];exact I1.hok.kept old,?_⟩
  ·
   have Ls:Y.N=xs++ys:=by rw [←hY];rfl
   rw [Ls] at e1
   by_cases cq:i<xs.length
   ·rw [List.getElem?_append_left (by rw [List.length_replicate];exact cq),List.getElem?_replicate,if_pos cq] at e2;cases e2
   ·have EA:xs.length≤i:=Nat.not_lt.mp cq
    rw [List.getElem?_append_right (by rw [List.length_replicate];exact EA),List.length_replicate] at e2;rw [List.getElem?_append_right EA] at e1;obtain⟨i0,h0,h1⟩:=sP S.slots _ x v e1 e2
    have hm:x∈ys:=List.mem_of_getElem? e1
    have kx:X.env.kindOf x=some .cell:=of_decide_eq_true (List.all_eq_true.mp S.kX x hm)
    have ky:(relabel scope X.env).names.lookup x=some .cell:=of_decide_eq_true (List.all_eq_true.mp S.kY x hm)
    obtain⟨m,_,hl⟩:=I1.loc
    obtain⟨u,ru,lk⟩:=hl i0 x v h0 h1 (.inr (.inl kx))
    refine⟨u,ru,.inr ⟨.inl (by rw [←hY];exact ky),?_⟩⟩;rcases lk with⟨z,_⟩|⟨_,c,hc1,hc2⟩
    ·rw [kx] at z;cases z
    ·obtain⟨c',gD⟩:=gR (env:=X.env) hm
     have G8:=dM S.cells x c' gD
     rw [hc1] at G8;cases G8;refine⟨c,by rw [←hY];exact(nB _ _ _ fun z=>(S.ownL z).2 hm).trans gD,?_⟩
     obtain⟨o,ho,hd⟩:=hc2
     exact⟨o,old _ _ ho,hd⟩
  ·rcases Jm x c e with z|z
   ·obtain⟨v,o,ho,hd⟩:=I1.cell x c z.1
    exact⟨v,o,old _ _ ho,hd⟩
   ·exact⟨none,Oa x c e z.2⟩
  ·rw [FI];exact I1.hok.fresh lE
  ·rw [xK,List.nil_append] at hp;exact Ib (s':={s1 with heap:=h₁,toks:=tk}) DC HW p hp
  ·have Ls:Y.N=xs++ys:=by rw [←hY];rfl
   have hl:=congrArg List.length S.slots
   rw [zzl,zzl] at hl;rw [Ls,List.length_append,List.length_append,List.length_replicate];unfold wQ;rw [zzl,hl]
 have loop:∀s₃:Shared,s₃={s1 with heap:=h₁}→
  codeAny (model X.prog X.w) X.A (.compLoop (.ListComp elt [⟨tg,iter,ifs,0⟩] scope pos) 0 (.ref it) (.ref s1.heap.objs.size) (compEnvC scope (cellsFrom (G2.objs.size+1) scope.names (bJ X.env ys)) G2.objs.size X.env))
   (compPost (model X.prog X.w) X.A X.xe use QQ (.ref s1.heap.objs.size) G2.objs.size) s₃:=by
  rintro s₃ rfl
  rw [OA];refine nW (fun k s'=>∃i made σ' H' aD c,Inv Y [(s1.heap.objs.size,lobj aD c)] σ' H' s'∧tn i s'.heap∧(∀b∈fp,H' b=none)∧Vals made aD∧k=n-i∧W i made σ' H') ?_ n
   ⟨0,[],_,H1,[],0,I2 _,T.keep _ _ _ CA fun b _ o e=>old b o e,fun b hb=>(f1 b hb).1,.nil,rfl,w0⟩
  rintro k s' ⟨i,made,σ',H',aD,c,I3,st3,fr3,rv,rfl,w3⟩
  obtain⟨hz,tw⟩:=turn i made σ' H' w3
  have pD:=I3.pin (s1.heap.objs.size,lobj aD c) (by rw [xK];exact List.mem_singleton.mpr rfl)
  rcases tw with⟨stop,hq⟩|⟨go,GJ,step⟩
  ·rw [←Ky];refine bR (T.done Y I0 HU MH IA i _ s' σ' H' _ I3 (KI fr3) st3 stop) fun r s4 ⟨hr,I4⟩=>?_
   subst hr;obtain⟨m,hn4,_⟩:=I4.loc
   rw [FI] at hn4;have J5:=I4.pin (s1.heap.objs.size,lobj aD c) (by rw [xK];exact List.mem_singleton.mpr rfl)
   have kp:∀b o,b≠G2.objs.size→s4.heap.get? b=some o→s4.heap.get? b=some o:=fun b o hb e=>e
   have Kw:∀{b o},s1.heap.get? b=some o→b≠G2.objs.size:=fun{b o} e=>Nat.ne_of_lt (Nat.lt_of_lt_of_le (Heap.lt_size e) lE)
   have e9:=I4.base
   rw [HA,MK,HB,Hf] at e9;have Kt:∀{b o},H1 b=some o→b≠s1.heap.objs.size:=fun{b o} e=>Nat.ne_of_lt (I1.hok.lt e)
   have u:Un (dZ X.stack) fp H1 (upd H' s1.heap.objs.size (.lst made)) s1.heap s4.heap:=by
    refine⟨fun b o e n hb hx=>kp b o (Kw e) (e9.keep b o e n hb hx),fun b o e n hb hx=>?_,fun b o e n hx=>?_,fun b o e hx=>?_,fun b xs e=>?_,fun b o u e=>?_,fun b ps e=>?_⟩
    ·obtain⟨sl,q⟩:=e9.slot b o e n hb hx
     exact⟨sl,kp b _ (Kw e) q⟩
    ·rw [ag (Nat.ne_of_lt (Heap.lt_size e))];exact e9.free b o e n hx
    ·obtain⟨o',q⟩:=e9.there b o e hx
     exact⟨o',kp b _ (Kw e) q⟩
    ·rw [ag (Kt e)];exact e9.tups b xs e
    ·rw [ag (Kt e)];exact e9.frzs b o u e
    ·obtain⟨more,q⟩:=e9.tbls b ps e
     exact⟨more,by rw [ag (Kt e)];exact q⟩
   have MB:H' G2.objs.size=none:=by rw [←FI];exact I4.free
   have Aw:dG X.prog X.w (upd H' s1.heap.objs.size (.lst made)) s4.heap:=fun b o e=>by
    by_cases hb:b=s1.heap.objs.size
    ·subst hb;rw [av] at e;cases e;exact⟨Nat.le_of_lt hz,aD,c,rv,kp _ _ Jx J5.1⟩
    ·rw [ag hb] at e;have x4:=I4.hok b o e
     rw [I0,HU] at x4;have DQ:∀b' u,H' b'=some u→b'≠G2.objs.size:=fun b' u q z=>by rw [z,MB] at q;cases q
     have neD:∀b' u,H' b'=some u→b'≠s1.heap.objs.size:=fun b' u q z=>by rw [z,J5.2.1] at q;cases q
     refine x4.stay (fun b' u lB q=>kp b' u ?_ q) (fun b' q=>?_) fun b' xs q=>?_
     ·rcases lB with z|z
      ·rw [z];exact DQ b o e
      ·exact DQ b' _ z
     ·rw [ag (neD b' _ q)];exact q
     ·rw [ag (neD b' _ q)];exact q
   have I5:Inv X pins σ (upd H' s1.heap.objs.size (.lst made)) s4:=I1.call' (by show s4.os=s1.os;rw [I4.os,HA]) u Aw I4.bare fun b hb=>⟨(f1 b hb).2.2.2.1,(f1 b hb).2.1,(f1 b hb).2.2.2.2.1,(f1 b hb).2.2.2.2.2⟩
   dsimp only;rw [Ky];exact fin s1.heap.objs.size G2.objs.size s4 _ m I5 hn4 (I1.fpOk lE (by rw [ag (Ne.symm Jx)];exact MB)) (hq _ J5.2.1)
  ·rw [←Ky];refine bR (T.item Y I0 HU MH IA i _ s' σ' H' _ I3 (KI fr3) st3 go) fun r s4 ⟨u,hr,h4⟩=>?_
   subst hr;dsimp only;refine bR h4 fun _ s5 ⟨x,H5,I5,r5,y5,st5,fr5⟩=>?_
   have JP:=I5.pinned (KI fr5) (T.obj _ _ st5)
   have My:=hg fp s1 H1 G2.objs.size
   have L9:=he fp s1 H1 G2.objs.size
   have Mr:=ht fp s1 H1 G2.objs.size
   rw [hY] at My L9 Mr;rw [←I0,←HU];refine wpAny_mono (My _ s5 σ' H5 x u _ JP r5 (step x H5 y5)) (fun _ s6 ⟨σ6,H6,I6,q6⟩=>?_) (fun _ _ f=>by rw [DN] at f;exact f.elim);refine wpAny_mono (Mr _ s6 σ6 H6 _ I6 q6) (fun okb sT ⟨HT,IT,qT⟩=>?_) (fun _ _ f=>by rw [DN] at f;exact f.elim);have O8:=IT.pin (s1.heap.objs.size,lobj aD c) (List.mem_append_right _ (List.mem_append_left _ (List.mem_singleton.mpr rfl)))
   have OT:tn (i+1) sT.heap:=T.keep _ _ _ st5 fun b hb o e=>(IT.pin (b,o) (List.mem_append_right _ (List.mem_append_right _ (c8 hb e)))).1
   cases okb with
   |false=>
    refine⟨n-(i+1),by omega,i+1,made,σ6,HT,aD,c,IT.unpinned,OT,fun b hb=>?_,rv,rfl,qT⟩
    obtain⟨o,e,d⟩:=T.obj _ _ st5 b hb
    exact(IT.pin (b,o) (List.mem_append_right _ (List.mem_append_right _ (c8 hb e)))).2.1
   |true=>
   refine wpAny_mono (L9 _ sT σ6 HT _ IT qT) (fun v s7 ⟨y,H7,I7,r7,q7⟩=>?_) (fun _ _ f=>by rw [DN] at f;exact f.elim);have KU:=I7.pin (s1.heap.objs.size,lobj aD c) (List.mem_append_right _ (List.mem_append_left _ (List.mem_singleton.mpr rfl)))
   have e7:s7.heap.get? s1.heap.objs.size=some {cls:=.type "list",data:=.seq aD.toArray c}:=KU.1
   refine append_at (hsz:=by rw [List.size_toArray,←rv.length];exact Nat.le_of_lt hz) e7 fun h' vI Ou=>?_
   have I8:Inv Y [] σ6 H7 s7:=I7.pins_of fun _ z=>nomatch z
   have I9:Inv Y [] σ6 H7 {s7 with heap:=h'}:=I8.turned (t':=s7.toks) (it:=s1.heap.objs.size) (fun b o hb e=>vI.extBut b o hb e) KU.2.1 (by rw [FI];exact Jx) (.inr (by rw [HA];exact Nat.le_refl _))
    (fun x c' e=>OY x c' e) (fun p hp=>by rw [xK] at hp;cases hp)
   have eD:h'.get? s1.heap.objs.size=some (lobj (aD++[v]) (c+1)):=by rw [Ou,List.push_toArray]
   have Nh:tn (i+1) s7.heap:=T.keep _ _ _ st5 fun b hb o e=>(I7.pin (b,o) (List.mem_append_right _ (List.mem_append_right _ (c8 hb e)))).1
   refine⟨n-(i+1),by omega,i+1,made++[y],σ6,H7,aD++[v],c+1,I9.pins_of (Ib (s':={s7 with heap:=h'}) eD KU.2.1),T.keep _ _ _ Nh fun b hb o e=>vI.extBut b o (Ne.symm (MJ b hb)) e,fun b hb=>?_,rv.append (.cons r7 .nil),rfl,q7⟩
   obtain⟨o,e,d⟩:=T.obj _ _ st5 b hb
   exact(I7.pin (b,o) (List.mem_append_right _ (List.mem_append_right _ (c8 hb e)))).2.1
 exact codeAny_compStart_list (loop _ rfl) (T.self _ 0 _ _ _ (T.keep _ _ _ CA fun b _ o e=>old b o e) (loop _ rfl))
theorem Ck{elt tg iter:Expr}{pos:Pos}{wi:TI}{g:TG}{te:TE}(hc:X.calm=true)(S:dQ X scope xs ys is)(hi:PI X tg iter wi)
 (hg:∀fp s1 H1 C,PG (bW X (xs++ys) scope (bJ X.env ys) fp s1 H1 C) tg g) (he:∀fp s1 H1 C,PE (bW X (xs++ys) scope (bJ X.env ys) fp s1 H1 C) elt te)
 (hs:∀x,foldedSetIterable iter X.env x=pure x:=by intro _;rfl):
 PE X (.ListComp elt [⟨tg,iter,[],0⟩] scope pos) (yE wi xs.length g te is):=by
 intro pins s σ H Q I h;rw [eval_ListComp];exact fX (use:=none) (Q:=Q) hc S hi hg (fun _ _ _ _=>uk) he hs I h (fun D C s4 H4 m I5 hn ⟨g0,g1,_,g3,g4,g5⟩ q=>⟨m,hn,fun h' vI=>⟨.ref D,H4,I5.turned (t':=s4.toks) (it:=C) (fun b o hb e=>vI.extBut b o hb e) g0 g1 g3 g4 g5,rfl,q⟩⟩)
theorem vj{elt tg iter DG:Expr}{pos:Pos}{wi:TI}{g:TG}{te:TE}{tt:TT}(hc:X.calm=true)(S:dQ X scope xs ys is)(hi:PI X tg iter wi)
 (hg:∀fp s1 H1 C,PG (bW X (xs++ys) scope (bJ X.env ys) fp s1 H1 C) tg g) (ht:∀fp s1 H1 C,PT (bW X (xs++ys) scope (bJ X.env ys) fp s1 H1 C) DG tt) (he:∀fp s1 H1 C,PE (bW X (xs++ys) scope (bJ X.env ys) fp s1 H1 C) elt te)
 (hs:∀x,foldedSetIterable iter X.env x=pure x:=by intro _;rfl):
 PE X (.ListComp elt [⟨tg,iter,[DG],0⟩] scope pos) (i8 wi xs.length g tt te is):=by
 intro pins s σ H Q I h;rw [eval_ListComp];exact fX (use:=none) (Q:=Q) hc S hi hg (fun fp s1 H1 C=>sQ (ht fp s1 H1 C)) he hs I h (fun D C s4 H4 m I5 hn ⟨g0,g1,_,g3,g4,g5⟩ q=>⟨m,hn,fun h' vI=>⟨.ref D,H4,I5.turned (t':=s4.toks) (it:=C) (fun b o hb e=>vI.extBut b o hb e) g0 g1 g3 g4 g5,rfl,q⟩⟩)
end
end L2
namespace L2
open PySem PySem.Spec PyProof.Rows
theorem bD{H:Hp}{p:Addr}{o:HO}(h:H p=none):aF H (upd H p o):=fun b u e=>by rw [ag (df e h)];exact e
section
variable{X:Cx}
end
end L2
namespace Cw
open PySem L2
def sgn(c:Nat):Bool:=c==35||(48≤c&&c≤57)
def Oc:V→Bool
 |.str z=>decide (1≤z.cps.toList.length)&&decide (z.cps.toList.length≤12)&&z.cps.toList.all sgn
 |_=>false
def GX:V→Nat
 |.str z=>z.cps.toList.length
 |_=>0
section
variable{K:PySem.W.Frag}
abbrev kit(K:PySem.W.Frag)(t n:String)(b:Bool):Prop:=PySem.W.kitOne K (.type t) (.type n)=some b
theorem kit_same{K:PySem.W.Frag}(t:String):kit K t t true:=by unfold kit PySem.W.kitOne;rw [if_pos (by simp)]
theorem kit_of{t n:String}{b:Bool}(h0:(Value.type t==Value.type n)=false)(h1:PySem.W.kitMeta n=true)(h2:(fastBuiltinMro t).map (·.contains (Value.type n))=some b):kit K t n b:=by
 unfold kit PySem.W.kitOne;rw [if_neg (by rw [h0];exact zzf)];show(if PySem.W.kitMeta n=true then PySem.W.subIn K (.type t) (.type n) else none)=some b
 rw [if_pos h1];exact h2
end
abbrev Mu:Str:="#0123456789"
end Cw
namespace L2
open PySem PySem.Spec PyProof.Rows
section
variable{X:Cx}{pos:Pos}
end
end L2
namespace L2
open PySem PySem.Spec PyProof.Rows
structure DX(K:PySem.W.Frag)(C:Addr):Prop where
 ga:PySem.W.findIn K (.ref C) "__getattribute__"=some (some (.builtin "BaseException.__getattribute__"))
 hk:PySem.W.findIn K (.ref C) "__getattr__"=some none
 cl:PySem.W.findIn K (.ref C) "__class__"=some (some (.builtin "object.__class__"))
 mo:PySem.W.mroIn K C (.type "object")=some true
 mb:PySem.W.mroIn K C (.type "BaseException")=some true
 is:(PySem.W.clsIn K C).isSome=true
section
variable{prog:Program}{w:World}{A:Around}{E:Value→Shared→Prop}{h:Heap}{g:Array GenState}{d:Drawn}{t:Nat}{os:OsState}{x C:Addr}{o:Obj}{K:PySem.W.Frag}
end
section
variable{X:Cx}
end
end L2
namespace L2
open PySem PySem.Spec PyProof.Rows
section
variable{X:Cx}{pins:List (Addr×Obj)}{σ:St}{H:Hp}{s:Shared}
end
end L2
namespace L2
open PySem PySem.Spec PyProof.Rows
section
variable{X:Cx}
end
end L2
namespace L2
open PySem PySem.Spec PyProof.Rows
open PySem.AutoSeq1 (wpAny_loadPart')
end L2
namespace Cw
open PySem L2
end Cw
namespace L2
open PySem PySem.Spec PyProof.Rows
section
variable{X:Cx}
theorem ox:cT X (.type "int") (fun xs H Q=>∃z n,xs=[.str z]∧PySem.intText? z=some n∧z.length≤640∧Q (.int n) H):=by
 intro pins s σ H xs us Q I r h;obtain⟨z,n,rfl,h1,h2,q⟩:=h
 obtain⟨u,rfl,t,rfl⟩:=vals1 r
 exact PySem.W.KIN.call_text h1 h2 ⟨.int n,H,I.tok _,⟨_,rfl⟩,q⟩
end
end L2
namespace Cw
open PySem L2
end Cw
namespace L2
open PySem PySem.Spec PyProof.Rows
theorem md{α β:Type}{R:α→β→Prop}:∀{xs:List α} {ys:List β},Paired R xs ys→∀{i:Nat} {x:α},xs[i]?=some x→∃y,ys[i]?=some y∧R x y
 |_,_,.nil,_,_,h=>by simp at h
 |_,_,.cons r t,0,x,h=>by simp at h;subst h;exact⟨_,rfl,r⟩
 |_,_,.cons r t,i+1,x,h=>by
  obtain⟨y,h1,h2⟩:=md t (i:=i) (x:=x) (by simpa using h)
  exact⟨y,by simpa using h1,h2⟩
theorem kN{α β:Type}{R:α→β→Prop}:∀{xs:List α} {ys:List β},Paired R xs ys→xs.length=ys.length
 |_,_,.nil=>rfl
 |_,_,.cons _ t=>by simp [kN t]
section
variable{X:Cx}
theorem iD{vs:List V}{aD:List Value}(r:Vals vs aD){j:Nat}(h:j<aD.toArray.size):∃v,vs[j]?=some v∧RelV v aD.toArray[j]:=by
 have hl:=r.length
 rw [List.size_toArray] at h;have hj:j<vs.length:=by omega
 obtain⟨u,hu,ru⟩:=r.get (i:=j) (x:=vs[j]) (zzg hj)
 rw [zzg h] at hu;cases hu;exact⟨_,zzg hj,by simpa using ru⟩
end
end L2
namespace L2
open PySem PySem.Spec PyProof.Rows
abbrev bK:HO:=.ext fun _=>True
theorem j6{P:Program}{w:World}{H:Hp}{h:Heap}{a:Addr}{o:Obj}(e:h.get? a=some o):bV P w H h a (.frz o bK):=⟨e,trivial,⟨o,e⟩,fun _ _ _ _=>trivial⟩
def withZ(Z:List (Addr×Obj))(H:Hp):Hp:=fun b=>match Z.lookup b with
 |some o=>some (.frz o bK)
 |none=>H b
def bf(Z:List (Addr×Obj))(H:Hp):Hp:=fun b=>match Z.lookup b with
 |some _=>none
 |none=>H b
section
variable{Z:List (Addr×Obj)}{H H':Hp}{b:Addr}{o:Obj}
theorem bg(e:Z.lookup b=some o):withZ Z H b=some (.frz o bK):=by unfold withZ;rw [e]
theorem aj(e:Z.lookup b=none):withZ Z H b=H b:=by unfold withZ;rw [e]
theorem d9(e:Z.lookup b=some o):bf Z H b=none:=by unfold bf;rw [e]
theorem aC(e:Z.lookup b=none):bf Z H b=H b:=by unfold bf;rw [e]
theorem dD{u:HO}(e:bf Z H b=some u):Z.lookup b=none∧H b=some u:=by
 cases q:Z.lookup b with
 |none=>rw [aC q] at e;exact⟨rfl,e⟩
 |some o=>rw [d9 q] at e;cases e
theorem gz(h:H b=none):bf Z H b=none:=by
 cases q:Z.lookup b with
 |none=>rw [aC q];exact h
 |some o=>exact d9 q
structure q8(Z:List (Addr×Obj))(H:Hp)(fs:List Addr)(h:Heap):Prop where
 at_:∀b o,Z.lookup b=some o→h.get? b=some o
 no:∀b o,Z.lookup b=some o→H b=none
 fr:∀b o,Z.lookup b=some o→b∉fs
variable{P:Program}{w:World}{fs:List Addr}{h h':Heap}
theorem q8.hok(z:q8 Z H fs h)(k:dG P w H h):dG P w (withZ Z H) h:=fun b u e=>by
 cases q:Z.lookup b with
 |some o=>rw [bg q] at e;cases e;exact j6 (z.at_ b o q)
 |none=>
  rw [aj q] at e;have nz:∀c v,H c=some v→Z.lookup c=none:=fun c v hv=>by
   cases y:Z.lookup c with
   |none=>rfl
   |some o=>rw [z.no c o y] at hv;cases hv
  exact(k b u e).stay (fun c v _ r=>r) (fun c r=>by rw [aj (nz c _ r)];exact r) fun c xs r=>by rw [aj (nz c _ r)];exact r
theorem q8.un_less(z:q8 Z H fs h)(u:Un fs [] (withZ Z H) H' h h')(k:dG P w H' h'):Un fs [] H (bf Z H') h h'∧dG P w (bf Z H') h':=by
 have zk:∀b o,Z.lookup b=some o→H' b=some (.frz o bK):=fun b o q=>u.frzs b o _ (bg q)
 have zh:∀b o,Z.lookup b=some o→h'.get? b=some o:=fun b o q=>(k b _ (zk b o q)).1
 have nz:∀c v,H c=some v→Z.lookup c=none:=fun c v hv=>by
  cases y:Z.lookup c with
  |none=>rfl
  |some o=>rw [z.no c o y] at hv;cases hv
 refine⟨⟨fun b o e n hb hx=>?_,fun b o e n hb hx=>?_,fun b o e n hx=>?_,fun b o e hx=>u.there b o e hx,fun b xs e=>?_,fun b o v e=>?_,fun b ps e=>?_⟩,fun b v e=>?_⟩
 ·cases q:Z.lookup b with
  |some o'=>
   have e2:=z.at_ b o' q
   rw [e] at e2;cases e2;exact zh b o q
  |none=>exact u.keep b o e (by rw [aj q];exact n) hb hx
 ·cases q:Z.lookup b with
  |some o'=>exact absurd hb (z.fr b o' q)
  |none=>exact u.slot b o e (by rw [aj q];exact n) hb hx
 ·cases q:Z.lookup b with
  |some o'=>exact d9 q
  |none=>rw [aC q];exact u.free b o e (by rw [aj q];exact n) hx
 ·rw [aC (nz b _ e)];exact u.tups b xs (by rw [aj (nz b _ e)];exact e)
 ·rw [aC (nz b _ e)];exact u.frzs b o v (by rw [aj (nz b _ e)];exact e)
 ·rw [aC (nz b _ e)];exact u.tbls b ps (by rw [aj (nz b _ e)];exact e)
 ·obtain⟨q,e1⟩:=dD e
  refine(k b v e1).stay (fun c y _ r=>r) (fun c r=>?_) fun c xs r=>?_
  ·cases y:Z.lookup c with
   |none=>rw [aC y];exact r
   |some o=>rw [zk c o y] at r;cases r
  ·cases y:Z.lookup c with
   |none=>rw [aC y];exact r
   |some o=>rw [zk c o y] at r;cases r
theorem q8.un_with(z:q8 Z H fs h)(u:Un fs [] H H' h h')(k:dG P w H' h'):Un fs [] (withZ Z H) (withZ Z H') h h'∧dG P w (withZ Z H') h':=by
 have zh:∀b o,Z.lookup b=some o→h'.get? b=some o:=fun b o q=>u.keep b o (z.at_ b o q) (z.no b o q) (z.fr b o q) (fun y=>nomatch y)
 have zn:∀b o,Z.lookup b=some o→H' b=none:=fun b o q=>u.free b o (z.at_ b o q) (z.no b o q) (fun y=>nomatch y)
 have nz:∀c v,H' c=some v→Z.lookup c=none:=fun c v hv=>by
  cases y:Z.lookup c with
  |none=>rfl
  |some o=>rw [zn c o y] at hv;cases hv
 have nw:∀b,withZ Z H b=none→Z.lookup b=none∧H b=none:=fun b e=>by
  cases q:Z.lookup b with
  |some o=>rw [bg q] at e;cases e
  |none=>rw [aj q] at e;exact⟨rfl,e⟩
 refine⟨⟨fun b o e n hb hx=>u.keep b o e (nw b n).2 hb hx,fun b o e n hb hx=>u.slot b o e (nw b n).2 hb hx,fun b o e n hx=>?_,fun b o e hx=>u.there b o e hx,fun b xs e=>?_,fun b o v e=>?_,fun b ps e=>?_⟩,fun b v e=>?_⟩
 ·rw [aj (nw b n).1];exact u.free b o e (nw b n).2 hx
 ·cases q:Z.lookup b with
  |some o=>rw [bg q] at e;cases e
  |none=>rw [aj q] at e⊢;exact u.tups b xs e
 ·cases q:Z.lookup b with
  |some o'=>rw [bg q] at e⊢;exact e
  |none=>rw [aj q] at e⊢;exact u.frzs b o v e
 ·cases q:Z.lookup b with
  |some o=>rw [bg q] at e;cases e
  |none=>rw [aj q] at e⊢;exact u.tbls b ps e
 ·cases q:Z.lookup b with
  |some o=>rw [bg q] at e;cases e;exact j6 (zh b o q)
  |none=>
   rw [aj q] at e;exact(k b v e).stay (fun c y _ r=>r) (fun c r=>by rw [aj (nz c _ r)];exact r) fun c xs r=>by rw [aj (nz c _ r)];exact r
end
section
variable{P:Program}{w:World}{K:PySem.W.Frag}{mg:Str→Option Value}{base:Heap}{A:Around}{outer:List Env}{s s':Shared}{H:Hp}{Z:List (Addr×Obj)}
theorem gY.withZ(e:gY P w K mg base A outer s H)(z:q8 Z H (dZ outer) s.heap)(zb:∀b o,Z.lookup b=some o→base.get? b=none):gY P w K mg base A outer s (withZ Z H) where
 frames:=e.frames
 mod:=e.mod
 bs:=fun b o q=>⟨(e.bs b o q).1,by
  cases y:Z.lookup b with
  |some o'=>rw [zb b o' y] at q;cases q
  |none=>rw [aj y];exact(e.bs b o q).2⟩
 bsz:=e.bsz
 funs:=e.funs
 frf:=fun b hb=>by
  cases y:Z.lookup b with
  |some o'=>exact absurd hb (z.fr b o' y)
  |none=>rw [aj y];exact e.frf b hb
 hok:=z.hok e.hok
 bare:=e.bare
theorem CE.less{Q:VK}{u:Value}(z:q8 Z H (dZ outer) s.heap)(h:CE outer P w (withZ Z H) s (fun v H'=>Q v (bf Z H')) u s'):CE outer P w H s Q u s':=by
 obtain⟨v,H',os,bare,un,hok,r,q⟩:=h
 obtain⟨u1,k1⟩:=z.un_less un hok
 exact⟨v,_,os,bare,u1,k1,r,q⟩
theorem CE.more{Q:VK}{u:Value}(z:q8 Z H (dZ outer) s.heap)(h:CE outer P w H s (fun v H'=>(∀b o,Z.lookup b=some o→H' b=none)→Q v (withZ Z H')) u s'):CE outer P w (withZ Z H) s Q u s':=by
 obtain⟨v,H',os,bare,un,hok,r,q⟩:=h
 obtain⟨u1,k1⟩:=z.un_with un hok
 exact⟨v,_,os,bare,u1,k1,r,q fun b o y=>un.free b o (z.at_ b o y) (z.no b o y) (fun y=>nomatch y)⟩
theorem dy.less{E:XK}{e:Value}(z:q8 Z H (dZ outer) s.heap)(h:dy P w outer (withZ Z H) s (fun C a H'=>E C a (bf Z H')) e s'):dy P w outer H s E e s':=by
 obtain⟨a,C,t,vs,H',B,rfl,F⟩:=h
 have zk:∀b o,Z.lookup b=some o→H' b=some (.frz o bK):=fun b o q=>F.un.frzs b o _ (bg q)
 have kB:∀b o,s.heap.get? b=some o→H b=none→b∉dZ outer→B.get? b=some o:=fun b o e n hb=>by
  cases q:Z.lookup b with
  |some o'=>
   have e2:=z.at_ b o' q
   rw [e] at e2;cases e2;exact(F.hok b _ (zk b o q)).1
  |none=>exact F.keepB b o e (by rw [aj q];exact n) hb
 have hB:dG P w (bf Z H') B:=fun b v e=>by
  obtain⟨q,e1⟩:=dD e
  refine(F.hok b v e1).stay (fun c y _ r=>r) (fun c r=>?_) fun c xs r=>?_
  ·cases y:Z.lookup c with
   |none=>rw [aC y];exact r
   |some o=>rw [zk c o y] at r;cases r
  ·cases y:Z.lookup c with
   |none=>rw [aC y];exact r
   |some o=>rw [zk c o y] at r;cases r
 have hs:dG P w H' s'.heap:=fun b v e=>(F.hok b v e).stay (fun c y _ r=>F.fly.1 _ _ r) (fun _ r=>r) fun _ _ r=>r
 obtain⟨u1,_⟩:=z.un_less (P:=P) (w:=w) F.un hs
 exact⟨a,C,t,vs,_,B,rfl,⟨F.os,F.bare,hB,F.fly,F.tn,F.tup,kB,F.thereB,u1,F.ends⟩⟩
theorem dy.more{E:XK}{e:Value}(z:q8 Z H (dZ outer) s.heap)(h:dy P w outer H s (fun C a H'=>(∀b o,Z.lookup b=some o→H' b=none)→E C a (withZ Z H')) e s'):dy P w outer (withZ Z H) s E e s':=by
 obtain⟨a,C,t,vs,H',B,rfl,F⟩:=h
 have zB:∀b o,Z.lookup b=some o→B.get? b=some o:=fun b o q=>F.keepB b o (z.at_ b o q) (z.no b o q) (z.fr b o q)
 have zn:∀b o,Z.lookup b=some o→H' b=none:=fun b o q=>F.un.free b o (z.at_ b o q) (z.no b o q) (fun y=>nomatch y)
 have nz:∀c v,H' c=some v→Z.lookup c=none:=fun c v hv=>by
  cases y:Z.lookup c with
  |none=>rfl
  |some o=>rw [zn c o y] at hv;cases hv
 have hB:dG P w (withZ Z H') B:=fun b v e=>by
  cases q:Z.lookup b with
  |some o=>rw [bg q] at e;cases e;exact j6 (zB b o q)
  |none=>
   rw [aj q] at e;exact(F.hok b v e).stay (fun c y _ r=>r) (fun c r=>by rw [aj (nz c _ r)];exact r) fun c xs r=>by rw [aj (nz c _ r)];exact r
 have hs:dG P w H' s'.heap:=fun b v e=>(F.hok b v e).stay (fun c y _ r=>F.fly.1 _ _ r) (fun _ r=>r) fun _ _ r=>r
 obtain⟨u1,_⟩:=z.un_with (P:=P) (w:=w) F.un hs
 refine⟨a,C,t,vs,_,B,rfl,⟨F.os,F.bare,hB,F.fly,F.tn,F.tup,fun b o e n hb=>F.keepB b o e ?_ hb,F.thereB,u1,F.ends zn⟩⟩
 cases q:Z.lookup b with
 |some o=>rw [bg q] at n;cases n
 |none=>rw [aj q] at n;exact n
end
end L2
namespace L2
open PySem PySem.Spec PyProof.Rows
structure pB(ps ys:List Str)(scope:Scope):Prop where
 kind:scope.kind=.function
 co:scope.isCoroutine=false
 gen:scope.isGenerator=false
 nd:(ps++ys).Nodup
 nocell:∀x∈scope.names,x.2≠.cell
 par:∀x∈ps,scope.names.lookup x=some .local
 fre:∀y∈ys,scope.names.lookup y=some .free
 cov:∀x,scope.names.lookup x=some .free→x∈ys
noncomputable def CM(P:Program)(w:World)(K:PySem.W.Frag)(mg:Str→Option Value)(base:Heap)(N:List Str)(qual:Str)(scope:Scope)(f:Addr)(cd:Value)(cl:List (Str×Addr))(A:Around)(outer:List Env)(s:Shared)(H:Hp)(E:XK):Cx where
 prog:=P
 w:=w
 K:=K
 mg:=mg
 base:=base
 A:=A.deeper (PySem.W.envX qual scope s.heap.objs.size f cd cl)
 N:=N
 s₀:=s
 H₀:=H
 env:=PySem.W.envX qual scope s.heap.objs.size f cd cl
 outer:=outer
 stack:=PySem.W.envX qual scope s.heap.objs.size f cd cl::outer
 ex:=[]
 calm:=true
 fn:=fun _=>false
 pn:=[]
 xe:=fun e s'=>wpAny (model P w) (A.deeper (PySem.W.envX qual scope s.heap.objs.size f cd cl)) (leaving (PySem.W.envX qual scope s.heap.objs.size f cd cl) e) (fun _ B5=>dy P w outer H s E e B5) (fun e' B5=>dy P w outer H s E e' B5) s'
theorem lZ{α:Type}:∀{l:List (Str×α)} {x:Str} {v:α},(l.map (·.1)).Nodup→(x,v)∈l→l.lookup x=some v
 |(y,u)::r,x,v,nd,h=>by
  rw [List.map_cons,List.nodup_cons] at nd;rw [List.lookup_cons];rcases List.mem_cons.mp h with e|e
  ·cases e;simp
  ·have jg:(x==y)=false:=beq_eq_false_iff_ne.mpr fun z=>nd.1 (by subst z;exact List.mem_map_of_mem (f:=(·.1)) e)
   rw [jg];exact lZ nd.2 e
theorem kL{ps:List Str}{us:List Value}{i:Nat}{x:Str}{u:Value}(nd:ps.Nodup)(h1:ps[i]?=some x)(h2:us[i]?=some u):(ps.zip us).reverse.lookup x=some u:=by
 have hs:∀{ps:List Str} {us:List Value},List.Sublist ((ps.zip us).map (·.1)) ps:=fun{ps us}=>by
  induction ps generalizing us with
  |nil=>simp
  |cons p ps ih=>
   cases us with
   |nil=>simp
   |cons q us=>simpa using ih
 refine lZ ?_ ?_
 ·rw [List.map_reverse];exact List.pairwise_reverse.mpr ((nd.sublist hs).imp fun h=>Ne.symm h)
 ·rw [List.mem_reverse];refine List.mem_of_getElem? (i:=i) ?_;rw [List.getElem?_zip_eq_some];exact⟨h1,h2⟩
section
variable{P:Program}{w:World}{K:PySem.W.Frag}{mg:Str→Option Value}{base:Heap}{ps ys:List Str}{qual:Str}{scope:Scope}{f:Addr}{cd:Value}{cl:List (Str×Addr)}{A:Around}{outer:List Env}{s:Shared}{H:Hp}{E:XK}
theorem rG{us:List Value}{vs ws:List V}{h':Heap}{tk:Nat}(S:pB ps ys scope)(hd:A.handled=none)(e0:gY P w K mg base A outer s H)(Gq:∀y∈ys,∃c,cl.lookup y=some c)(inj:∀x y c,cl.lookup x=some c→cl.lookup y=some c→x=y)
 (r:Vals vs us) (hl:vs.length=ps.length) (hw:ws.length=ys.length) (cells:∀(i:Nat) y c,ys[i]?=some y→cl.lookup y=some c→∀v,ws[i]?=some v→∃u,RelV v u∧s.heap.IsCell c (some u)) (Lq:∀x c,cl.lookup x=some c→∃v,s.heap.IsCell c v)
 (Il:∀x c,cl.lookup x=some c→H c=none) (ns:h'.Ns s.heap.objs.size (fun x=>(ps.zip us).reverse.lookup x)) (hk:∀b o,s.heap.get? b=some o→h'.get? b=some o):
 Inv (CM P w K mg base (ps++ys) qual scope f cd cl A outer s H E) [] (vs.map some++ws.map some) H {s with heap:=h',toks:=tk}:=by
 have B1:∀b:Addr,b∉(CM P w K mg base (ps++ys) qual scope f cd cl A outer s H E).ex:=fun b z=>absurd (show b∈([]:List Addr) from z) (by simp)
 have ck:∀c v,s.heap.IsCell c v→h'.IsCell c v:=fun c v ⟨o,ho,hd⟩=>⟨o,hk c o ho,hd⟩
 refine⟨⟨e0.mod,S.kind,rfl,rfl,Nat.le_refl _,inj,fun x hx=>?_,(fun x c z=>nomatch z),fun _=>hd,Around.frames_deeper e0.frames,.inr ⟨rfl,rfl⟩,fun b z=>absurd z (B1 b),e0.bs,e0.bsz,fun b _ _=>B1 b,fun b z=>absurd z (B1 b),e0.funs,e0.frf⟩,
  rfl,e0.bare,Un.kept hk,⟨_,ns,fun i x v h1 h2 h3=>?_⟩,fun x c h=>let⟨v,z⟩:=Lq x c h;⟨v,ck c v z⟩,e0.hok.fresh (Nat.le_refl _),Il,fun p hp=>absurd (show p∈([]:List (Addr×Obj)) from hp) (by simp),e0.hok.kept hk,?_⟩
 ·have hx:scope.names.lookup x=some .cell∨scope.names.lookup x=some .free:=hx
  rcases hx with hx|hx
  ·exact absurd rfl (S.nocell _ (PySem.mem_of_lookup hx))
  ·exact Gq x (S.cov x hx)
 ·have h1:(ps++ys)[i]?=some x:=h1
  by_cases hi:i<vs.length
  ·rw [List.getElem?_append_left (by simpa using hi),List.getElem?_map] at h2;have ha:vs[i]?=some v:=by
    cases e:vs[i]? with
    |none=>rw [e] at h2;cases h2
    |some a=>rw [e] at h2;cases h2;rfl
   obtain⟨u,hu,rv⟩:=r.get ha
   have hp:ps[i]?=some x:=by rw [List.getElem?_append_left (by omega)] at h1;exact h1
   exact⟨u,rv,.inl ⟨S.par x (List.mem_of_getElem? hp),kL (S.nd.sublist (List.sublist_append_left _ _)) hp hu⟩⟩
  ·rw [List.getElem?_append_right (by simpa using hi),List.getElem?_map,zzl] at h2;rw [List.getElem?_append_right (by omega)] at h1;have ha:ws[i-vs.length]?=some v:=by
    cases e:ws[i-vs.length]? with
    |none=>rw [e] at h2;cases h2
    |some a=>rw [e] at h2;cases h2;rfl
   rw [←hl] at h1;obtain⟨c,hc⟩:=Gq x (List.mem_of_getElem? h1)
   obtain⟨u,rv,z⟩:=cells _ x c h1 hc v ha
   exact⟨u,rv,.inr ⟨.inr (S.fre x (List.mem_of_getElem? h1)),c,hc,ck c _ z⟩⟩
 ·show _=(ps++ys).length
  rw [List.length_append,List.length_append,zzl,zzl,hl,hw]
theorem Hl{N:List Str}:Passes (dy P w) (CM P w K mg base N qual scope f cd cl A outer s H E) E:=by
 rintro pins σ H1 s1 e s' I ⟨a,C,t,vs,H',B,rfl,F⟩
 have nx:∀b:Addr,b∉(CM P w K mg base N qual scope f cd cl A outer s H E).ex:=fun b z=>nomatch (show b∈([]:List Addr) from z)
 have keepB:∀b o,s.heap.get? b=some o→H b=none→b∉dZ outer→B.get? b=some o:=fun b o q n hb=>
  F.keepB b o (I.base.keep b o q n hb (nx b)) (I.base.free b o q n (nx b)) (iJ I rfl q hb)
 have thereB:∀b o,s.heap.get? b=some o→b∉dZ outer→∃o',B.get? b=some o':=fun b o q hb=>by
  obtain⟨o1,q1⟩:=I.base.there b o q (nx b)
  exact F.thereB b o1 q1 (iJ I rfl q hb)
 refine wpAny_leaves_onW I.ok.frames rfl F.fly fun h' x1 x2=>⟨a,C,t,vs,H',B,rfl,?_⟩
 have slot:∀b o,s.heap.get? b=some o→H b=none→b∈dZ outer→∃sl,h'.get? b=some {o with slots:=sl}:=fun b o q n hb=>by
  obtain⟨sl,q1⟩:=I.base.slot b o q n hb (nx b)
  obtain⟨sl2,q2⟩:=F.un.any q1 (I.base.free b o q n (nx b)) (fun z=>nomatch z)
  obtain⟨_,o',q3,hd⟩:=F.fly.2.2.1.mem (b:=b) (List.mem_filterMap.mpr (let⟨v,h1,h2⟩:=List.mem_filterMap.mp hb;⟨v,.tail _ h1,h2⟩))
  rw [q2] at q3;cases q3;obtain⟨sl3,q4⟩:=x2 b _ q2 hd
  exact⟨sl3,q4⟩
 refine⟨F.os.trans I.os,F.bare,F.hok,x1,F.tn,F.tup.of_slots x2,keepB,thereB,⟨fun b o q n hb _=>x1.1 _ _ (keepB b o q n hb),fun b o q n hb _=>slot b o q n hb,fun b o q n _=>?_,fun b o q _=>?_,fun b xs q=>F.un.tups _ _ (I.base.tups _ _ q),fun b o u q=>F.un.frzs _ _ _ (I.base.frzs _ _ _ q),fun b ps q=>?_⟩,F.ends⟩
 ·obtain⟨sl,q1⟩:=I.base.any q n (nx b)
  exact F.un.free b _ q1 (I.base.free b o q n (nx b)) (fun z=>nomatch z)
 ·by_cases hb:b∈dZ outer
  ·obtain⟨sl,q1⟩:=slot b o q (I.ok.frf b hb) hb
   exact⟨_,q1⟩
  ·obtain⟨o',q1⟩:=thereB b o q hb
   exact⟨o',x1.1 _ _ q1⟩
 ·obtain⟨m1,q1⟩:=I.base.tbls b ps q
  obtain⟨m2,q2⟩:=F.un.tbls b _ q1
  exact⟨m1++m2,by rw [←Array.append_assoc];exact q2⟩
theorem lam_run{k:Nat}{params:Arguments}{body:Expr}{pm eW:Value}{c':Addr}{oc:Obj}{cU:Array Value}{ct:Tok}{us:List Value}{vs ws:List V}{Q:VK}{Z:List (Addr×Obj)}{t:TE}
 (S:pB ps ys scope) (hr:di k A) (e0:gY P w K mg base A outer s H) (z:q8 Z H (dZ outer) s.heap) (zb:∀b o,Z.lookup b=some o→base.get? b=none)
 (ho:s.heap.get? f=some (PySem.W.kla_obj "<lambda>" qual params body scope cl pm c' eW)) (hc:s.heap.get? c'=some oc) (rZ:oc.data=.fields cU) (CV:cU[1]?=some (.str qual ct))
 (hb:bindArgs (PySem.W.kla_fn "<lambda>" qual params body scope cl pm (.ref c') eW) ⟨us,[]⟩=pure (ps.zip us)) (r:Vals vs us) (hl:vs.length=ps.length) (hw:ws.length=ys.length)
 (Gq:∀y∈ys,∃c,cl.lookup y=some c) (inj:∀x y c,cl.lookup x=some c→cl.lookup y=some c→x=y)
 (cz:∀x c,cl.lookup x=some c→∃o v,Z.lookup c=some o∧o.data=.cell v)
 (cells:∀(i:Nat) y c,ys[i]?=some y→cl.lookup y=some c→∀v,ws[i]?=some v→∃u,RelV v u∧s.heap.IsCell c (some u))
 (ht:PE (CM P w K mg base (ps++ys) qual scope f (.ref c') cl A outer s H (fun C a H'=>(∀b o,Z.lookup b=some o→H' b=none)→E C a (withZ Z H'))) body t)
 (hq:t (vs.map some++ws.map some) H fun v H'=>(∀b o,Z.lookup b=some o→H' b=none)→Q v (withZ Z H')):
 codeAny (model P w) A (.call (.ref f) ⟨us,[]⟩) (CR (dy P w) outer P w (withZ Z H) s Q E) s:=by
 have lim:s.heap.NoLimit:=e0.mod.nolimit.keeps fun b o e=>(e0.bs b o e).1
 refine PySem.W.kla_callFunE hr.depth ho rfl S.co S.gen rfl ⟨c',oc,cU,ct,rfl,hc,rZ,CV⟩ ?_;rw [hb];refine wpAny_pure (wpAny_newFunctionEnv S.nocell (fun y hy=>S.par y.1 (List.of_mem_zip hy).1) (fun h₁ Jo hsb=>?_) S.kind)
 have hk₁:∀b o,s.heap.get? b=some o→h₁.get? b=some o:=fun b o e=>hsb.extBut b o (Nat.ne_of_lt (Heap.lt_size e)) (Heap.get?_push_of_some _ e)
 refine⟨lim.keeps hk₁,?_⟩;show codeAny _ _ (.expr body (PySem.W.envX qual scope s.heap.objs.size f (.ref c') cl)) _ _;have I:=rG (E:=fun C a H'=>(∀b o,Z.lookup b=some o→H' b=none)→E C a (withZ Z H')) (cd:=.ref c') (f:=f) (qual:=qual) (tk:=s.toks+(ps.zip us).length) S hr.hd e0 Gq inj r hl hw cells (fun x c h=>by
  obtain⟨o,v,h1,h2⟩:=cz x c h
  exact⟨v,o,z.at_ c o h1,h2⟩) (fun x c h=>by
  obtain⟨o,v,h1,h2⟩:=cz x c h
  exact z.no c o h1) Jo hk₁
 refine PySem.W.kla_codeExpr (wpAny_mono (ht [] _ _ H _ I hq) (fun u s' hs=>?_) fun e s' hs=>?_)
 ·obtain⟨v,H',J,rv,q⟩:=hs
  exact CE.more z ⟨v,H',J.os,J.bare,J.base,J.hok,rv,q⟩
 ·exact wpAny_mono hs (fun _ B5 y=>dy.more z y) fun e' B5 y=>dy.more z y
end
end L2
namespace L2
open PySem PySem.Spec PyProof.Rows
theorem rb{p:Pos}{a b:Int}{c cv:Value}:∀(l:List Value),TriplesOk l→codeAmong p (l++[rawInt a,rawInt b,c])=some cv→codeAmong p l=some cv∨cv=c:=by
 intro l h e
 fun_induction TriplesOk l with
 |case1=>
  simp only [List.nil_append,codeAmong,rawInt] at e;split at e
  ·cases e;exact .inr rfl
  ·cases e
 |case2 a' t b' u x rest ih=>
  simp only [List.cons_append,codeAmong] at e⊢;split at e
  ·rename_i hc;rw [if_pos hc];exact .inl e
  ·rename_i hc;rw [if_neg hc];exact ih h e
 |case3 l h1 h2=>exact h.elim
def zx(mg:Str→Option Value)(base:Heap):Prop:=∃bm o,mg "__builtins__"=some (.ref bm)∧bm≠builtinsNs∧bm≠mainGlobals∧base.get? bm=some o∧o.cls=.type "module"∧o.dict=some builtinsNs∧o.data=.plain
noncomputable def fh(H:Hp)(P:Addr)(oJ:Array Value)(c':Addr)(oc:Obj)(f:Addr)(fo:Obj):Hp:=upd (upd (upd H P (.tbl oJ)) c' (.frz oc bK)) f (.frz fo bK)
section
variable{X:Cx}{pins:List (Addr×Obj)}{σ:St}{H:Hp}{s:Shared}{c P c' f:Addr}{ps oJ:Array Value}{oc fo:Obj}
theorem Inv.lam{h':Heap}{tk:Nat}(I:Inv X pins σ H s)(hP:H P=some (.tbl ps))(hx:∀b o,b≠P→s.heap.get? b=some o→h'.get? b=some o)(Mw:h'.get? P=some (PySem.W.tabObj oJ))(more:∃m,oJ=ps++m)
 (hc:H c'=none∧s.heap.objs.size≤c'∨H c'=some (.frz oc bK)) (Ol:h'.get? c'=some oc) (hf:s.heap.objs.size≤f) (OW:h'.get? f=some fo) (zF:c'≠f):
 Inv X pins σ (fh H P oJ c' oc f fo) {s with heap:=h',toks:=tk}:=by
 have fr:H f=none:=I.hok.fresh hf
 have nP:∀b u,H b=some u→(∀q,u≠.tbl q)→b≠P:=fun b u e n z=>by subst z;rw [hP] at e;cases e;exact n _ rfl
 have nf:∀b u,H b=some u→b≠f:=fun b u e z=>by subst z;rw [fr] at e;cases e
 have cP:c'≠P:=fun z=>by
  subst z;rcases hc with⟨e,_⟩|e
  ·rw [hP] at e;cases e
  ·rw [hP] at e;cases e
 have fP:f≠P:=fun z=>by subst z;rw [hP] at fr;cases fr
 have at_:∀b u,H b=some u→(∀q,u≠.tbl q)→fh H P oJ c' oc f fo b=some u:=fun b u e n=>by
  unfold fh;rw [ag (nf b u e)]
  by_cases hb:b=c'
  ·subst hb;rw [av];rcases hc with⟨z,_⟩|z
   ·rw [z] at e;cases e
   ·rw [z] at e;exact e
  ·rw [ag hb,ag (nP b u e n)];exact e
 have no:∀b o,s.heap.get? b=some o→H b=none→fh H P oJ c' oc f fo b=none:=fun b o e n=>by
  have yR:b≠f:=fun z=>absurd (Heap.lt_size e) (by rw [z];exact Nat.not_lt.mpr hf)
  have GG:b≠P:=fun z=>by subst z;rw [hP] at n;cases n
  have wD:b≠c':=fun z=>by
   rcases hc with⟨_,y⟩|y
   ·exact absurd (Heap.lt_size e) (by rw [z];exact Nat.not_lt.mpr y)
   ·rw [z,y] at n;cases n
  unfold fh;rw [ag yR,ag wD,ag GG];exact n
 have kp:∀b o,s.heap.get? b=some o→H b=none→h'.get? b=some o:=fun b o e n=>hx b o (fun z=>by subst z;rw [hP] at n;cases n) e
 refine I.un ⟨fun b o e n _ _=>kp b o e n,fun b o e n _ _=>⟨o.slots,kp b o e n⟩,fun b o e n _=>no b o e n,fun b o e _=>?_,fun b xs e=>at_ b _ e (fun _ z=>nomatch z),fun b o u e=>at_ b _ e (fun _ z=>nomatch z),fun b qs e=>?_⟩ fun b u e=>?_
 ·by_cases hb:b=P
  ·exact⟨_,by rw [hb];exact Mw⟩
  ·exact⟨o,hx b o hb e⟩
 ·by_cases hb:b=P
  ·subst hb;rw [hP] at e;cases e;obtain⟨m,rfl⟩:=more
   exact⟨m,by unfold fh;rw [ag (Ne.symm fP),ag (Ne.symm cP),av]⟩
  ·have wD:b≠c':=fun z=>by
    subst z;rcases hc with⟨y,_⟩|y
    ·rw [y] at e;cases e
    ·rw [y] at e;cases e
   exact⟨#[],by unfold fh;rw [ag (nf b _ e),ag wD,ag hb,e];simp⟩
 ·unfold fh at e
  by_cases h1:b=f
  ·subst h1;rw [av] at e;cases e;exact j6 OW
  ·rw [ag h1] at e
   by_cases h2:b=c'
   ·subst h2;rw [av] at e;cases e;exact j6 Ol
   ·rw [ag h2] at e
    by_cases h3:b=P
    ·subst h3;rw [av] at e;cases e;exact Mw
    ·rw [ag h3] at e;refine(I.hok b u e).stay (fun d v hd q=>hx d v ?_ q) (fun d q=>at_ d _ q (fun _ z=>nomatch z)) fun d xs q=>at_ d _ q (fun _ z=>nomatch z)
     rcases hd with hd|hd
     ·rw [hd];exact h3
     ·exact nP d _ hd (fun _ z=>nomatch z)
theorem lam_make{R:Addr→Obj→Prop}{params:Arguments}{body:Expr}{scope:Scope}{pos:Pos}{cl:List (Str×Addr)}{Q:Value→Shared→Prop}{E:Value→Shared→Prop}(I:Inv X pins σ H s)(hP:H P=some (.tbl ps))(ht:TriplesOk ps.toList)(tM:X.env.code=.ref c)(C:PySem.W.CodeHd X.base c P)
 (OV:zx X.mg X.base) (CU:closureFor scope X.env=pure cl) (DE:defaultsOf params X.env=([],[]))
 (hit:∀cv,codeAmong pos ps.toList=some cv→∃c' oc cU t,cv=.ref c'∧H c'=some (.frz oc bK)∧R c' oc∧oc.data=.fields cU∧cU[1]?=some (.str (X.env.qual++"<lambda>") t))
 (h:∀(f c':Addr) (oc:Obj) (cU:Array Value) (t:Tok) (eW:Value) (oJ:Array Value) (h':Heap) (tk:Nat),H f=none→(H c'=none∨H c'=some (.frz oc bK)∧R c' oc)→c'≠f→f≠P→c'≠P→oc.data=.fields cU→cU[1]?=some (.str (X.env.qual++"<lambda>") t)→TriplesOk oJ.toList→
  (∀p cv,codeAmong p oJ.toList=some cv→codeAmong p ps.toList=some cv∨cv=.ref c')→(∃m,oJ=ps++m)→
  Inv X pins σ (fh H P oJ c' oc f (PySem.W.kla_obj "<lambda>" (X.env.qual++"<lambda>") params body scope cl ((X.mg "__name__").getD .none) c' eW)) {s with heap:=h',toks:=tk}→Q (.ref f) {s with heap:=h',toks:=tk}):
 wpAny (model X.prog X.w) X.A (eval (.Lambda params body scope pos) X.env) Q E s:=by
 have KL:s.heap.get? P=some (PySem.W.tabObj ps):=I.hok P _ hP
 have hg:=I.ok.mod.glob.keeps I.bk
 have OH:mainGlobals≠P:=fun q=>by
  obtain⟨o,es,ep,e,_⟩:=I.ok.mod.glob
  have:=(I.bs _ _ e).2
  rw [q,hP] at this;cases this
 obtain⟨bm,ob,b1,b2,b3,b4,b5,b6,b7⟩:=OV
 have hB:s.heap.BuiltinsAt X.mg P:=⟨bm,ob,b1,b2,b3,(fun q=>by
  have:=(I.bs _ _ b4).2
  rw [q,hP] at this;cases this),I.bk _ _ b4,b5,b6,b7⟩
 refine PySem.W.kla_eval DE ?_;cases hm:codeAmong pos ps.toList with
 |none=>
  refine PySem.W.kla_makeFunction (mg:=X.mg) CU I.ok.glob hg tM (C.keeps I.bk) KL ht hm OH hB fun c' eW h' tk hx EA cq Kj OS=>?_
  obtain⟨c₂,oc,vs,t,e2,hoc,hd,hv⟩:=Kj
  cases e2;have CV:H c'=none:=I.hok.fresh EA
  have hsz:s.heap.objs.size≤h'.objs.size:=Nat.le_trans EA (Nat.le_of_lt cq)
  have qi:H h'.objs.size=none:=I.hok.fresh hsz
  refine h h'.objs.size c' oc vs t eW _ _ tk qi (.inl CV) (Nat.ne_of_lt cq) (fun z=>by rw [z,hP] at qi;cases qi) (fun z=>by rw [z,hP] at CV;cases CV) hd hv ?_ ?_ ⟨_,rfl⟩
   (I.lam hP (fun b o hb e=>Heap.get?_push_of_some _ (hx b o hb e)) (Heap.get?_push_of_some _ OS) ⟨_,rfl⟩ (.inl ⟨CV,EA⟩) (Heap.get?_push_of_some _ hoc) hsz (Heap.get?_push_size _ rfl) (Nat.ne_of_lt cq))
  ·rw [Array.toList_append];exact TriplesOk_snoc _ _ _ _ ht
  ·intro p cv e;rw [Array.toList_append] at e;exact rb _ ht e
 |some cv=>
  obtain⟨c',oc,cU,t,rfl,gD,hR,hd,hv⟩:=hit cv hm
  refine PySem.W.kla_makeFunctionHit (mg:=X.mg) CU I.ok.glob hg tM (C.keeps I.bk) KL ht hm hB fun eW h' tk hk hsz=>?_
  have qi:H h'.objs.size=none:=I.hok.fresh hsz
  have wx:s.heap.get? c'=some oc:=(I.hok c' _ gD).1
  have zF:c'≠h'.objs.size:=fun z=>by rw [z,qi] at gD;cases gD
  refine h h'.objs.size c' oc cU t eW ps _ tk qi (.inr ⟨gD,hR⟩) zF (fun z=>by rw [z,hP] at qi;cases qi) (fun z=>by rw [z,hP] at gD;cases gD) hd hv ht (fun p cv e=>.inl e) ⟨#[],by simp⟩
   (I.lam hP (fun b o hb e=>Heap.get?_push_of_some _ (hk b o e)) (Heap.get?_push_of_some _ (hk _ _ KL)) ⟨#[],by simp⟩ (.inr gD) (Heap.get?_push_of_some _ (hk _ _ wx)) hsz (Heap.get?_push_size _ rfl) zF)
end
end L2
namespace L2
open PySem PySem.Spec PyProof.Rows
end L2
namespace L2
open PySem PySem.Spec PyProof.Rows
section
variable(P:Program)(w:World)
end
section
variable{P:Program}{w:World}{H H':Hp}{h h':Heap}{a:Addr}{o:HO}
end
section
variable{P:Program}{w:World}{H:Hp}{h h':Heap}{x e:Addr}{o':HO}
end
section
variable{fs JO ex Og:List Addr}{H H1 H2:Hp}{h h1 h2 h':Heap}{a x e:Addr}{o:HO}
end
end L2
namespace L2
open PySem PySem.Spec PyProof.Rows
section
variable{X:Cx}{pins:List (Addr×Obj)}{σ:List (Option V)}{H H':Hp}{s:Shared}{h':Heap}
end
end L2
namespace L2
open PySem PySem.Spec PyProof.Rows
section
variable{X:Cx}
variable{a b:Expr}{ta tb:TE}{pos:Pos}
variable{tA F2:TT}{rest:List Expr}
end
end L2
namespace L2
open PySem PySem.Spec PyProof.Rows
section
variable{X:Cx}{pins:List (Addr×Obj)}{σ:St}{H:Hp}{s:Shared}{a:Addr}{xs ys:List V}
end
section
variable{X:Cx}{pins:List (Addr×Obj)}{σ:St}{H:Hp}{s:Shared}{E:Value→Shared→Prop}
end
section
variable{X:Cx}{st:Stmt}{rest:List Stmt}{t u:TS}{e:Expr}{te:TE}{pos:Pos}
end
section
variable{X:Cx}{pos:Pos}
end
section
variable{X:Cx}{pos:Pos}
end
end L2
namespace L2
open PySem PySem.Spec PyProof.Rows
section
variable{X:Cx}{tg:Expr}
end
end L2
namespace L2
open PySem PySem.Spec PyProof.Rows
section
variable{X:Cx}{a b c:Expr}{ta tb tc:TE}{pos:Pos}
end
section
variable{X:Cx}{a b c:Expr}{ta tb tc:TE}{pos:Pos}
end
end L2
namespace L2
open PySem PySem.Spec PyProof.Rows
section
variable{prog:Program}{w:World}{A:Around}{E:Value→Shared→Prop}{s:Shared}{K:PySem.W.Frag}{x dx C f:Addr}{mA:Str→Option Value}{name:Str}{v:Value}
end
section
variable{P:Program}{w:World}{H H':Hp}{h h':Heap}{a C dx:Addr}{fs JO:List (Str×V)}
end
section
variable{X:Cx}{pins:List (Addr×Obj)}{σ:St}{H:Hp}{s:Shared}{a C dx:Addr}{fs:List (Str×V)}{f:Str}{v:V}{A:Around}{E:Value→Shared→Prop}
end
section
variable{X:Cx}{o e value:Expr}{f:Str}{pos pos' jx:Pos}{ta tv:TE}
end
section
variable{X:Cx}{pins:List (Addr×Obj)}{σ:St}{H:Hp}{s:Shared}{A:Around}{E:Value→Shared→Prop}{Q:Value→Shared→Prop}{c:Value}{b:Bool}
end
end L2
namespace L2
open PySem PySem.Spec PyProof.Rows
section
variable{X:Cx}{e:Expr}{es:List Expr}{te:TE}{t:TA}{pos:Pos}
end
section
variable{X:Cx}{pins:List (Addr×Obj)}{σ:St}{H:Hp}{s s':Shared}
end
section
variable{X:Cx}{CX:qE}{k:Nat}{f C:Addr}{fd:FuncData}{ps:List Str}{sp:Sp}{N9:List V}{ds:List Value}{E:XK}{x m:Str}{p pos apos:Pos}{e o:Expr}{es:List Expr}{ta:TE}{t:TA}
end
section
variable{X:Cx}{CX:qE}{k:Nat}{f C:Addr}{fd:FuncData}{ps ks:List Str}{sp:Sp}{E:XK}{x m:Str}{p pos apos JM:Pos}{e o:Expr}{es:List Expr}{kI:List Keyword}{te ta:TE}{t tk:TA}{nm:Option Str}
variable{g:List Value→List Value→List Value}{gV:List V→List V→List V}
end
end L2
namespace L2
open PySem PySem.Spec PyProof.Rows
section
variable{X:Cx}{x:Str}{p pos:Pos}{e:Expr}{es:List Expr}{t:TA}{id T:String}{r:List V→Hp→VK→Prop}
end
end L2
namespace L2
open PySem PySem.Spec PyProof.Rows
section
variable{κ:Type} [DecidableEq κ]
def gq(aB:List (κ×V))(k:κ):Option V:=(aB.find? fun kv=>decide (kv.1=k)).map (·.2)
def putK(aB:List (κ×V))(k:κ)(v:V):List (κ×V):=
 if(aB.any fun kv=>decide (kv.1=k))=true then aB.map (fun kv=>if kv.1=k then(kv.1,v) else kv) else aB++[(k,v)]
def eX(aB:List (κ×V))(k:κ):List (κ×V):=aB.filter fun kv=>decide (kv.1≠k)
theorem fL{p:κ×V}{r:List (κ×V)}{k:κ}(e:p.1=k):gq (p::r) k=some p.2:=by simp [gq,List.find?_cons,e]
theorem fk{p:κ×V}{r:List (κ×V)}{k:κ}(e:¬p.1=k):gq (p::r) k=gq r k:=by simp [gq,List.find?_cons,e]
theorem jm(k:κ):∀aB:List (κ×V),(aB.any fun kv=>decide (kv.1=k))=(gq aB k).isSome
 |[]=>rfl
 |p::r=>by
  rw [List.any_cons]
  by_cases e:p.1=k
  ·simp only [fL e,decide_eq_true e,Bool.true_or,Option.isSome_some]
  ·rw [fk e,decide_eq_false e,Bool.false_or];exact jm k r
theorem dN(aB:List (κ×V))(k:κ)(v:V):(putK aB k v).length≤aB.length+1:=by
 unfold putK;split
 ·rw [zzl];omega
 ·rw [List.length_append,List.length_cons,List.length_nil];omega
theorem i4.isSome_eq{o:Option V}{u:Option Value}(r:i4 o u):o.isSome=u.isSome:=by
 cases o with
 |none=>cases u with
  |none=>rfl
  |some _=>exact(show False from r).elim
 |some _=>cases u with
  |none=>exact(show False from r).elim
  |some _=>rfl
theorem KV.val{aB:List (κ×V)}{vs:List (κ×Value)}(r:KV aB vs)(k:κ):i4 (gq aB k) (valueAt vs k):=by
 unfold KV at r
 induction r with
 |nil=>exact True.intro
 |@cons p q ps qs h t ih=>
  obtain⟨h1,h2⟩:=h
  by_cases e:p.1=k
  ·have e':q.1=k:=h1.symm.trans e
   have b:valueAt (q::qs) k=some q.2:=by simp [valueAt,List.find?_cons,e']
   rw [fL e,b];exact h2
  ·have e':¬q.1=k:=fun z=>e (h1.trans z)
   have b:valueAt (q::qs) k=valueAt qs k:=by simp [valueAt,List.find?_cons,e']
   rw [fk e,b];exact ih
theorem KV.any{aB:List (κ×V)}{vs:List (κ×Value)}(r:KV aB vs)(k:κ):(aB.any fun kv=>decide (kv.1=k))=vs.any fun kv=>decide (kv.1=k):=by
 unfold KV at r
 induction r with
 |nil=>rfl
 |cons h t ih=>rw [List.any_cons,List.any_cons,ih,h.1]
theorem KV.repl{aB:List (κ×V)}{vs:List (κ×Value)}(r:KV aB vs)(k:κ){y:V}{u:Value}(ry:RelV y u):
 KV (aB.map fun kv=>if kv.1=k then(kv.1,y) else kv) (vs.map fun kv=>if kv.1=k then(kv.1,u) else kv):=by
 unfold KV at r⊢
 induction r with
 |nil=>exact .nil
 |@cons p q ps qs h t ih=>
  rw [List.map_cons,List.map_cons];refine .cons ?_ ih;obtain⟨h1,h2⟩:=h
  by_cases e:p.1=k
  ·rw [if_pos e,if_pos (h1.symm.trans e)];exact⟨h1,ry⟩
  ·rw [if_neg e,if_neg (fun z=>e (h1.trans z))];exact⟨h1,h2⟩
theorem KV.put{aB:List (κ×V)}{vs:List (κ×Value)}(r:KV aB vs)(k:κ){y:V}{u:Value}(ry:RelV y u):KV (putK aB k y) (stored vs k u):=by
 unfold putK stored;rw [r.any k]
 by_cases e:(vs.any fun kv=>decide (kv.1=k))=true
 ·rw [if_pos e,if_pos e];exact r.repl k ry
 ·rw [if_neg e,if_neg e];exact Paired.snoc r ⟨rfl,ry⟩
theorem KV.length{aB:List (κ×V)}{vs:List (κ×Value)}(r:KV aB vs):aB.length=vs.length:=Paired.length r
theorem za(aB:List (κ×V))(k:κ):(eX aB k).length≤aB.length:=List.length_filter_le _ _
end
theorem pj{P:Program}{w:World}{k:Key}{u:Value}(r:RelV (kV k) u):(bP P w).is k u=true:=by
 cases k with
 |inl i=>obtain⟨t,e⟩:=(show∃t,u=Value.int i t from r);subst e;exact ql P w i t
 |inr x=>obtain⟨t,e⟩:=(show∃t,u=Value.str x t from r);subst e;exact pA P w x t
theorem mI{P:Program}{w:World}:∀{ks:List Key} {us:List Value},Vals (ks.map kV) us→ItemsAre (bP P w) ks us
 |[],_,r=>by rw [List.map_nil] at r;cases r;exact .nil
 |k::ks,_,r=>by
  rw [List.map_cons] at r;cases r with
  |cons h t=>exact .cons (pj h) (mI t)
abbrev KT(H:Hp):List (List Key×V)→List (List Key×Addr×Value)→Prop:=Paired fun p q=>p.1=q.1∧H q.2.1=some (.tup (p.1.map kV))∧RelV p.2 q.2.2
theorem KT.val{H:Hp}{aB:List (List Key×V)}{xs:List (List Key×Addr×Value)}(r:KT H aB xs)(k:List Key):i4 (gq aB k) ((atKey xs k).map (·.2)):=by
 induction r with
 |nil=>exact True.intro
 |@cons p q ps qs h t ih=>
  obtain⟨h1,_,h2⟩:=h
  by_cases e:p.1=k
  ·have e':q.1=k:=h1.symm.trans e
   have b:atKey (q::qs) k=some q.2:=by simp [atKey,List.find?_cons,e']
   rw [fL e,b];exact h2
  ·have e':¬q.1=k:=fun z=>e (h1.trans z)
   have b:atKey (q::qs) k=atKey qs k:=by simp [atKey,List.find?_cons,e']
   rw [fk e,b];exact ih
theorem KT.repl{H:Hp}{aB:List (List Key×V)}{xs:List (List Key×Addr×Value)}(r:KT H aB xs)(k:List Key){y:V}{u:Value}(ry:RelV y u):
 KT H (aB.map fun kv=>if kv.1=k then(kv.1,y) else kv) (xs.map (putAt k u)):=by
 induction r with
 |nil=>exact .nil
 |@cons p q ps qs h t ih=>
  rw [List.map_cons,List.map_cons];refine .cons ?_ ih;obtain⟨h1,h2,h3⟩:=h
  unfold putAt
  by_cases e:p.1=k
  ·rw [if_pos e,if_pos (h1.symm.trans e)];exact⟨h1,h2,ry⟩
  ·rw [if_neg e,if_neg (fun z=>e (h1.trans z))];exact⟨h1,h2,h3⟩
theorem KT.put{H:Hp}{aB:List (List Key×V)}{xs:List (List Key×Addr×Value)}(r:KT H aB xs)(k:List Key){b:Addr}{y:V}{u:Value}(hb:H b=some (.tup (k.map kV)))(ry:RelV y u):
 KT H (putK aB k y) (storedH xs k b u):=by
 have e:(aB.any fun kv=>decide (kv.1=k))=(atKey xs k).isSome:=by
  rw [jm,(r.val k).isSome_eq,Option.isSome_map]
 unfold putK storedH;rw [e]
 by_cases q:(atKey xs k).isSome=true
 ·rw [if_pos q,if_pos q];exact r.repl k ry
 ·rw [if_neg q,if_neg q];exact Paired.snoc r ⟨rfl,hb,ry⟩
theorem KT.keeps{H H':Hp}{aB:List (List Key×V)}{xs:List (List Key×Addr×Value)}(r:KT H aB xs)(ht:∀b ys,H b=some (.tup ys)→H' b=some (.tup ys)):KT H' aB xs:=
 Paired.mapP r fun _ _ z=>⟨z.1,ht _ _ z.2.1,z.2.2⟩
section
variable{P:Program}{w:World}{H:Hp}{h:Heap}{a:Addr}
theorem Cu{u:HO}(ok:dG P w H h)(e:Rd H a u):bV P w H h a u:=e.ok ok
theorem mD{aB:List (Key×V)}(ok:dG P w H h)(e:Rd H a (.dK aB)):aB.length≤sizeLine∧(a==sysModules)=false∧∃vs,KV aB vs∧h.DictOf (bP P w) a vs:=
 show bV P w H h a (.dK aB) from Cu ok e
theorem HH{aB:List (Key×V)}(ok:dG P w H h)(e:H a=some (.dK aB)):aB.length≤sizeLine∧(a==sysModules)=false∧∃vs,KV aB vs∧h.DictOf (bP P w) a vs:=mD ok (.inl e)
theorem fJ{ks:List Key}(ok:dG P w H h)(e:H a=some (.tup (ks.map kV))):(tupleKind (bP P w)).is h ks a:=by
 obtain⟨_,aD,r,o,h1,h2,n,h3⟩:=(show bV P w H h a (.tup (ks.map kV)) from ok a _ e)
 exact⟨o,aD.toArray,n,h1,h2,h3,by simpa using mI r⟩
theorem gv{aB:List (List Key×V)}(ok:dG P w H h)(e:Rd H a (.dT aB)):aB.length≤sizeLine∧(a==sysModules)=false∧
 ∃xs,KT H aB xs∧h.DictOfH (tupleKind (bP P w)) a xs:=by
 obtain⟨z,y,xs,r,o,es,ep,h1,h2,h3,h4,h5⟩:=(show bV P w H h a (.dT aB) from Cu ok e)
 refine⟨z,y,xs,r,o,es,ep,h1,h2,h3,h4,fun x hx=>?_,h5⟩
 have all:∀{l:List (List Key×V)} {m:List (List Key×Addr×Value)},KT H l m→∀x∈m,(tupleKind (bP P w)).is h x.1 x.2.1:=by
  intro l m q
  induction q with
  |nil=>intro x hx;exact nomatch hx
  |@cons p q ps qs hq t ih=>
   intro x hx;rcases List.mem_cons.mp hx with e|hx
   ·subst e;exact fJ ok (by rw [←hq.1];exact hq.2.1)
   ·exact ih x hx
 exact all r x hx
theorem wN{aB:List (List Key×V)}(ok:dG P w H h)(e:H a=some (.dT aB)):aB.length≤sizeLine∧(a==sysModules)=false∧
 ∃xs,KT H aB xs∧h.DictOfH (tupleKind (bP P w)) a xs:=gv ok (.inl e)
end
def yW(H:Hp)(a:Addr)(y:V)(r:Option V):Prop:=
 (∃aB k,Rd H a (.dK aB)∧y=kV k∧r=gq aB k)∨∃aB k b,Rd H a (.dT aB)∧y=.ref b∧H b=some (.tup (k.map kV))∧r=gq aB k
def vF(H:Hp)(a:Addr)(y v:V)(H':Hp):Prop:=
 (∃aB k,H a=some (.dK aB)∧y=kV k∧aB.length<sizeLine∧H'=upd H a (.dK (putK aB k v)))∨
 ∃aB k b,H a=some (.dT aB)∧y=.ref b∧H b=some (.tup (k.map kV))∧aB.length<sizeLine∧H'=upd H a (.dT (putK aB k v))
theorem vF.t{H:Hp}{a b:Addr}{aB:List (List Key×V)}{k:List Key}{v:V}(e:H a=some (.dT aB))(eb:H b=some (.tup (k.map kV)))(hl:aB.length<sizeLine):
 vF H a (.ref b) v (upd H a (.dT (putK aB k v))):=.inr ⟨aB,k,b,e,rfl,eb,hl,rfl⟩
section
variable{X:Cx}{pins:List (Addr×Obj)}{σ:St}{H:Hp}{s:Shared}{a:Addr}{y v:V}{u r:Value}{o:Option V}{A:Around}{E:Value→Shared→Prop}
theorem Inv.big(I:Inv X pins σ H s):sysModules<s.heap.objs.size:=by
 have h:mainGlobals<s.heap.objs.size:=(I.mod.glob.keeps I.bk).lt
 exact Nat.lt_trans (by decide) h
theorem vw{Q:Value→Shared→Prop}(hu:A.units+1<cLine)(I:Inv X pins σ H s)(g:yW H a y (some v))(ry:RelV y u)(h:∀w' s',Inv X pins σ H s'→RelV v w'→Q w' s'):
 wpAny (model X.prog X.w) A (getItem (.ref a) u) Q E s:=by
 rcases g with⟨aB,k,e,ey,l⟩|⟨aB,k,b,e,ey,eb,l⟩
 ·subst ey;obtain⟨z,hd,vs,rel,dd⟩:=mD I.hok e
  obtain⟨w',hw,gu⟩:=i4.some_of (v:=v) (o:=valueAt vs k) (by rw [l];exact rel.val k)
  exact wpAny_getItem_of (pj ry) dd.mapOf hw (h w' _ (I.tok _) gu)
 ·subst ey;cases(show u=Value.ref b from ry);obtain⟨z,hd,xs,rel,dd⟩:=gv I.hok e
  obtain⟨w',hw,gu⟩:=i4.some_of (v:=v) (o:=(atKey xs k).map (·.2)) (by rw [l];exact rel.val k)
  obtain⟨p,hp,hp2⟩:=Option.map_eq_some_iff.mp hw
  refine wpAny_getItem_heap (tupleKind_room_in1 hu) (fJ I.hok eb) dd hp ?_;rw [hp2];exact h w' _ (I.tok _) gu
theorem LQ{Q:Value→Shared→Prop}(hu:A.units+1<cLine)(I:Inv X pins σ H s)(g:yW H a y o)(ry:RelV y u)(h:∀s',Inv X pins σ H s'→Q (.bool o.isSome) s'):
 wpAny (model X.prog X.w) A (compareOp .In u (.ref a)) Q E s:=by
 rcases g with⟨aB,k,e,ey,l⟩|⟨aB,k,b,e,ey,eb,l⟩
 ·subst ey;obtain⟨z,hd,vs,rel,dd⟩:=mD I.hok e
  refine wpAny_in_of (pj ry) hd dd.mapOf ?_;rw [←(rel.val k).isSome_eq,←l];exact h _ (I.tok _)
 ·subst ey;cases(show u=Value.ref b from ry);obtain⟨z,hd,xs,rel,dd⟩:=gv I.hok e
  refine wpAny_in_heap (tupleKind_room_in1 hu) (fJ I.hok eb) hd dd ?_;have q:=(rel.val k).isSome_eq
  rw [Option.isSome_map] at q;rw [←q,←l];exact h _ (I.tok _)
theorem zO{Q:Value→Shared→Prop}(hu:A.units+1<cLine)(I:Inv X pins σ H s)(g:yW H a y o)(ry:RelV y u)(h:∀s',Inv X pins σ H s'→Q (.bool (!o.isSome)) s'):
 wpAny (model X.prog X.w) A (compareOp .NotIn u (.ref a)) Q E s:=by
 rcases g with⟨aB,k,e,ey,l⟩|⟨aB,k,b,e,ey,eb,l⟩
 ·subst ey;obtain⟨z,hd,vs,rel,dd⟩:=mD I.hok e
  refine wpAny_notIn_of (pj ry) hd dd.mapOf ?_;rw [←(rel.val k).isSome_eq,←l];exact h _ (I.tok _)
 ·subst ey;cases(show u=Value.ref b from ry);obtain⟨z,hd,xs,rel,dd⟩:=gv I.hok e
  refine wpAny_notIn_heap (tupleKind_room_in1 hu) (fJ I.hok eb) hd dd ?_;have q:=(rel.val k).isSome_eq
  rw [Option.isSome_map] at q;rw [←q,←l];exact h _ (I.tok _)
theorem f7{h':Heap}{t':Nat}{ob:HO}(I:Inv X pins σ H s)(mu:IU (H a))(hs:Heap.SameBut a s.heap h')(he:∃q,h'.get? a=some q)(new:bV X.prog X.w (upd H a ob) h' a ob):
 Inv X pins σ (upd H a ob) {s with heap:=h',toks:=t'}:=
 I.write (x:=a) (e:=a) mu (.inl rfl) (fun b q hb z=>(hs.2 b hb).trans z) he new
theorem Fy{P:Program}{w:World}{H':Hp}{h':Heap}{aB:List (Key×V)}{vs:List (Key×Value)}(z:aB.length≤sizeLine)(hd:(a==sysModules)=false)(rel:KV aB vs)(dd:h'.DictOf (bP P w) a vs):
 bV P w H' h' a (.dK aB):=⟨z,hd,vs,rel,dd⟩
theorem uT{H':Hp}{Q:Unit→Shared→Prop}(hu:A.units+1<cLine)(I:Inv X pins σ H s)(g:vF H a y v H')(ry:RelV y u)(rv:RelV v r)(h:∀s',Inv X pins σ H' s'→Q () s'):
 wpAny (model X.prog X.w) A (setItem (.ref a) u r) Q E s:=by
 rcases g with⟨aB,k,e,ey,l,eH⟩|⟨aB,k,b,e,ey,eb,l,eH⟩
 ·subst ey eH;obtain⟨z,hd,vs,rel,dd⟩:=HH I.hok e
  have hz:vs.length≤sizeLine:=by rw [←rel.length];exact z
  have hl:(putK aB k v).length≤sizeLine:=by have:=dN aB k v;omega
  refine wpAny_setItem_pairs (hsz:=hz) (pj ry) dd fun h' Dg hs=>h _ ?_
  have he:∃q,h'.get? a=some q:=let⟨q,_,_,hq,_⟩:=Dg;⟨q,hq⟩
  exact f7 I (by rw [e];exact True.intro) hs he (Fy hl hd (rel.put k rv) Dg)
 ·subst ey eH;cases(show u=Value.ref b from ry);obtain⟨z,hd,xs,rel,dd⟩:=wN I.hok e
  have hz:xs.length≤sizeLine:=by rw [←Paired.length rel];exact z
  have hl:(putK aB k v).length≤sizeLine:=by have:=dN aB k v;omega
  refine wpAny_setItem_heap (hsz:=hz) (tupleKind_room_in1 hu) (fJ I.hok eb) dd fun h' Dg hs=>h _ ?_
  obtain⟨q,es,ep,hq,h2,h3,h4,_,h5⟩:=Dg
  refine f7 I (by rw [e];exact True.intro) hs ⟨q,hq⟩ ⟨hl,hd,_,(rel.put k eb rv).keeps fun c ys ec=>?_,q,es,ep,hq,h2,h3,h4,h5⟩
  rw [ag (d8 ec e (fun z=>nomatch z))];exact ec
end
section
variable{X:Cx}{pins:List (Addr×Obj)}{σ:St}{H:Hp}{s:Shared}{a:Addr}{aB:List (Key×V)}{k:Key}{u:Value}{A:Around}{E:Value→Shared→Prop}
end
def HZ(i:Expr):Prop:=∀ov iv,subscripted i false ov iv=operate [ov,iv] (getItem ov iv)
theorem Cn{prog:Program}{w:World}{A:Around}{E:Value→Shared→Prop}{s:Shared}{env:Env}{value slice:Expr}{pos:Pos}{T id:String}{Q:Value→Shared→Prop}
 (hl:typeLookup (.type T) "__getitem__"=pure (some (.builtin id))) (hs:HZ slice)
 (h:wpAny (model prog w) A (eval value env) (fun o s₁=>wpAny (model prog w) A (eval slice env) (fun i s₂=>s₂.TypeIs o T∧wpAny (model prog w) A (getItem o i) Q E s₂) E s₁) E s):
 wpAny (model prog w) A (eval (.Subscript value slice pos) env) Q E s:=by
 refine Subscript_ (wpAny_mono h (fun o s₁ h₁=>wpAny_mono h₁ (fun i s₂ h₂=>?_) fun _ _ x=>x) fun _ _ x=>x)
 obtain⟨hT,h₂⟩:=h₂
 unfold subscriptTail;refine wpAny_bind ?_;rw [getitemInPython_of_ne hT.not_modules];refine wpAny_bind (wpAny_specialOf hT hl ?_);have fin:wpAny (model prog w) A (subscripted slice false o i) (fun r s₃=>wpAny (model prog w) A (letTemporaryGo value o r>>=fun _=>pure r) Q E s₃) E s₂:=by
  rw [hs o i];exact wpAny_operating (wpAny_mono h₂ (fun r s₃ h₃=>wpAny_bind (wpAny_letTemporaryGo (wpAny_pure h₃))) fun _ _ x=>x)
 first
  |exact wpAny_pure (wpAny_bind fin)
  |exact wpAny_bind (wpAny_pure (wpAny_bind fin))
  |exact wpAny_bind fin
theorem pd{X:Cx}{pins:List (Addr×Obj)}{σ:St}{H:Hp}{s:Shared}{a:Addr}{y:V}{o:Option V}(I:Inv X pins σ H s)(g:yW H a y o):s.TypeIs (.ref a) "dict":=by
 rcases g with⟨aB,k,e,_,_⟩|⟨aB,k,b,e,_,_,_⟩
 ·obtain⟨_,_,vs,_,dd⟩:=mD I.hok e
  exact dd.typeIs
 ·obtain⟨_,_,xs,_,dd⟩:=gv I.hok e
  exact dd.typeIs
def Cr(td ty:TE):TE:=fun σ H Q=>td σ H fun x H1=>ty σ H1 fun y H2=>∃a v,x=.ref a∧yW H2 a y (some v)∧Q v H2
section
variable{X:Cx}{o i e value:Expr}{pos pos' jx:Pos}{td ty tv:TE}
theorem Cj(hu:X.A.units+1<cLine)(ho:PE X o td)(hi:PE X i ty)(hs:HZ i):PE X (.Subscript o i pos) (Cr td ty):=by
 intro pins s σ H Q I h;refine Cn PySem.F.slot_dict_getitem.lookup hs (bR (ho pins s σ H _ I h) fun u s1 ⟨x,H1,I1,rx,q1⟩=>bR (hi pins s1 σ H1 _ I1 q1) fun iv s2 ⟨y,H2,I2,ry,a,v,ex,g,q2⟩=>?_)
 subst ex;obtain rfl:u=Value.ref a:=rx
 exact⟨pd I2 g,vw hu I2 g ry fun w' s3 I3 gu=>⟨v,H2,I3,gu,q2⟩⟩
end
theorem pN{P:Program}{w:World}{H:Hp}(h:Heap)(hb:sysModules<h.objs.size):bV P w H (h.push {cls:=.type "dict",data:=.dict #[]}) h.objs.size (.dT []):=
 ⟨Nat.zero_le _,beq_eq_false_iff_ne.mpr (Ne.symm (Nat.ne_of_lt hb)),[],.nil,_,#[],0,Heap.get?_push_size _ rfl,⟨rfl,rfl,rfl⟩,rfl,rfl,List.nodup_nil⟩
def FH:TE:=fun _ H Q=>∀p,H p=none→Q (.ref p) (upd H p (.dT []))
section
variable{X:Cx}{pos:Pos}
theorem xr:PE X (.Dict [] [] pos) FH:=fun pins s σ H Q I h=>
 wpAny_Dict_empty ⟨.ref s.heap.objs.size,_,I.laid (a:=s.heap.objs.size) (o:=.dT []) (t':=s.toks) (fun _ _ q=>Heap.get?_push_of_some _ q) (Nat.le_refl _) (pN s.heap I.big),rfl,h _ (I.hok.fresh (Nat.le_refl _))⟩
end
structure M1(X:Cx)(o:Expr)(m:Str)(apos:Pos)(e:Expr)(bC:Pos):Prop where
 base:attributeBase o m X.env (eval o X.env)=eval o X.env
 few:((backTo bC (starEach [e] X.env)).all (fun x=>!x.1)&&(backToKw bC (keywordEach [] X.env)).all (fun x=>x.1.isSome)
  &&decide (([e]:List Expr).length+([]:List Keyword).length+(if([]:List Keyword).isEmpty then 0 else 1)<30))=true
 line:(apos.endLine==bC.line)=true
 trees:backTo bC (starEach [e] X.env)=[(false,eval e X.env)]
structure M2(X:Cx)(o:Expr)(m:Str)(apos:Pos)(e f:Expr)(bC:Pos):Prop where
 base:attributeBase o m X.env (eval o X.env)=eval o X.env
 few:((backTo bC (starEach [e,f] X.env)).all (fun x=>!x.1)&&(backToKw bC (keywordEach [] X.env)).all (fun x=>x.1.isSome)
  &&decide (([e,f]:List Expr).length+([]:List Keyword).length+(if([]:List Keyword).isEmpty then 0 else 1)<30))=true
 line:(apos.endLine==bC.line)=true
 trees:backTo bC (starEach [e,f] X.env)=[(false,eval e X.env),(false,eval f X.env)]
def De(H:Hp)(a:Addr):Prop:=(∃aB,Rd H a (.dK aB))∨∃aB,Rd H a (.dT aB)
theorem Ey{X:Cx}{pins:List (Addr×Obj)}{σ:St}{H:Hp}{s:Shared}{a:Addr}(I:Inv X pins σ H s)(d:De H a):
 s.TypeIs (.ref a) "dict"∧(∀b,Value.ref a=.ref b→∃ob,s.heap.get? b=some ob∧ob.dict=none)∧(a==sysModules)=false:=by
 rcases d with⟨aB,e⟩|⟨aB,e⟩
 ·obtain⟨_,hd,vs,_,dd⟩:=mD I.hok e
  refine⟨dd.typeIs,fun b q=>?_,hd⟩
  cases q;obtain⟨ob,_,_,h1,h2,_⟩:=dd
  exact⟨ob,h1,h2.2.1⟩
 ·obtain⟨_,hd,xs,_,dd⟩:=gv I.hok e
  refine⟨dd.typeIs,fun b q=>?_,hd⟩
  cases q;obtain⟨ob,_,_,h1,h2,_⟩:=dd
  exact⟨ob,h1,h2.2.1⟩
section
variable{X:Cx}{pins:List (Addr×Obj)}{σ:St}{H:Hp}{s:Shared}{a:Addr}{y d:V}{u r:Value}{o:Option V}{A:Around}{E:Value→Shared→Prop}
end
section
variable{X:Cx}{o e f:Expr}{apos bC:Pos}{td ty tx:TE}
end
section
variable{X:Cx}{pins:List (Addr×Obj)}{σ:St}{H:Hp}{s:Shared}{a:Addr}{aB:List (Key×V)}{A:Around}{E:Value→Shared→Prop}
end
section
variable{X:Cx}{pins:List (Addr×Obj)}{σ:St}{H:Hp}{s:Shared}{a:Addr}{y:V}{u:Value}{A:Around}{E:Value→Shared→Prop}
end
end L2
namespace Att
open PySem PySem.W PySem.Calls PyProof.Rows
section
variable{prog:Program}{w:World}{A:Around}{E:Value→Shared→Prop}{s:Shared}{K:Frag}
end
end Att
namespace L2
open PySem PySem.Spec PyProof.Rows
end L2
namespace L2
open PySem PySem.Spec PyProof.Rows
end L2
namespace L2
open PySem PySem.Spec PyProof.Rows
section
variable{P:Program}{w:World}{K:PySem.W.Frag}{mg:Str→Option Value}{base:Heap}
end
section
variable{X:Cx}
end
section
variable{κ:Type} [DecidableEq κ]
theorem vO{p:κ×V}{r:List (κ×V)}{k:κ}(e:p.1=k):eX (p::r) k=eX r k:=by
 unfold eX;rw [List.filter_cons,if_neg (by simp [e])]
theorem u9{p:κ×V}{r:List (κ×V)}{k:κ}(e:¬p.1=k):eX (p::r) k=p::eX r k:=by
 unfold eX;rw [List.filter_cons,if_pos (by simp [e])]
end
end L2
namespace L2
open PySem PySem.Spec PyProof.Rows
section
variable{prog:Program}{w:World}{κ:Type} [DecidableEq κ]{knd:HeapKind prog w κ}{A:Around}{E:Value→Shared→Prop}{s:Shared}{d a:Addr}{xs:List (κ×Addr×Value)}{k:κ}
theorem nk(d:Addr)(lo:(d==sysModules)=false):MeetsIn prog w (Builtin.«dict.__len__» ⟨[.ref d],[]⟩) (fun _ R s=>∃xs,s.heap.DictOfH knd d xs∧R (.ok (.ret (.int xs.length s.toks))) {s with toks:=s.toks+1}):=
 .of_wp fun A R s ⟨xs,⟨o,es,ep,h1,_,h2,h3,_⟩,h⟩=>by
  show wpAny _ _ (dictSize d>>=fun n=>_) _ _ s
  unfold dictSize;refine wpAny_bind (wpAny_bind (wpAny_dictEntries h1 h2 (wpAny_pure (wpAny_bind (wpAny_pendingCount_other lo (wpAny_ret_mkInt ?_))))));rw [Nat.add_zero,size_of_entries h3];exact h
theorem E5{Q:Value→Shared→Prop}(lo:(d==sysModules)=false)(hm:s.heap.DictOfH knd d xs)(hf:(xs.length:Int)<2^63)(h:Q (.int xs.length (s.toks+1)) {s with toks:=s.toks+1+1}):wpAny (model prog w) A (call (.builtin "len") [.ref d]) Q E s:=by
 refine Calls.call_function_entry kind_len plain_len entry_len (args_len1 _) ?_;unfold Builtin.«len»;refine wpAny_bind (m:=oneArg "len" _) (wpAny_pure (wpAny_bind (m:=callSpecial? (.ref d) (Str.ofString "__len__")) (wpAny_callSpecial?_slot (name:=Str.ofString "__len__") hm.typeIs F.slot_dict_len
  (call_meetsIn F.slot_dict_len hm.typeIs F.entry_dict_len (F.args_dict_len_1 _) (nk (knd:=knd) d lo) ⟨xs,hm,?_⟩))))
 show wpAny _ _ (holding _ _>>=fun z=>_) _ _ {s with toks:=s.toks+1}
 refine wpAny_bind (wpAny_holding (wpAny_pure (wpAny_bind (wpAny_letGo ?_))));show wpAny _ _ (if((xs.length:Nat):Int)<0 then _ else(if((xs.length:Nat):Int)≥2^63 then _ else _)) _ _ _;rw [if_neg (by omega),if_neg (by omega)];exact wpAny_bind (wpAny_mkInt (wpAny_pure ⟨_,rfl,h⟩))
theorem xZ{l:List (κ×Addr×Value)}:∀{j:Nat} {p:Addr×Value},(l.map (·.1)).Nodup→l[j]?=some (k,p)→l.eraseIdx j=l.filter fun x=>decide (x.1≠k):=by
 induction l with
 |nil=>intro j p _ h;simp at h
 |cons x r ih=>
  intro j p nd h;rw [List.map_cons,List.nodup_cons] at nd;cases j with
  |zero=>
   simp only [List.getElem?_cons_zero,Option.some.injEq] at h;subst h;simp only [List.eraseIdx_cons_zero,ne_eq,List.filter_cons,not_true,decide_false,Bool.false_eq_true,if_false];refine(List.filter_eq_self.mpr fun y hy=>?_).symm;exact decide_eq_true fun e=>nd.1 (e▸List.mem_map_of_mem (f:=(·.1)) hy)
  |succ j=>
   simp only [List.getElem?_cons_succ] at h;have jg:¬x.1=k:=fun e=>nd.1 (e▸List.mem_map.mpr ⟨(k,p),List.mem_of_getElem? h,rfl⟩)
   rw [List.eraseIdx_cons_succ,List.filter_cons,if_pos (by simpa using jg),ih nd.2 h]
theorem mH{α β:Type}(f:α→β):∀(l:List α) (j:Nat),(l.eraseIdx j).map f=(l.map f).eraseIdx j
 |[],_=>by simp
 |x::r,0=>by simp
 |x::r,j+1=>by simp [mH f r j]
theorem ra{p:Addr×Value}{Q:Option DictEntry→Shared→Prop}(hu:knd.room A)(hk:knd.is s.heap k a)(hm:s.heap.DictOfH knd d xs)(hp:atKey xs k=some p)(hz:xs.length≤sizeLine)
 (hQ:∀h' e,e.val=p.2→h'.DictOfH knd d (xs.filter fun x=>decide (x.1≠k))→Heap.SameBut d s.heap h'→Q (some e) {s with heap:=h',toks:=s.toks+knd.draws k}):wpAny (model prog w) A (Builtin.Dict.takeOut d (.ref a)) Q E s:=by
 obtain⟨o,es,ep,h1,hc,h2,h3,his,nd⟩:=hm
 unfold Builtin.Dict.takeOut
 try with_reducible refine wpAny_holding ?_
 refine wpAny_bind (knd.pyHash hu hk (wpAny_bind (wpAny_dictFind_heap (s:={s with toks:=s.toks+knd.draws k}) hu hk h1 h2 h3 his nd (fun no=>?_) fun j q hj=>?_)))
 ·rw [atKey_none_of_get no] at hp;cases hp
 ·rw [atKey_of_get nd hj] at hp;cases hp;refine wpAny_bind (wpAny_dictEntries (s:={s with toks:=s.toks+knd.draws k}) h1 h2 ?_);rw [entry_at h3 j,hj];refine wpAny_bind (wpAny_updateDictKeys (hz:=by have e:=size_of_entries h3;omega) (s:={s with toks:=s.toks+knd.draws k}) h1 h2 (wpAny_pure (hQ _ _ rfl ⟨_,_,ep+1,Heap.get?_update_self _ h1 (Obj.isFreed_of_dict (Obj.data_mapDictKeys h2 _)),
   hc.mapDictKeys _,Obj.data_mapDictKeys h2 _,?_,fun x hx=>knd.keeps (his x (List.mem_filter.mp hx).1) h1 h2 (Heap.SameBut.update ..),nd.sublist (List.filter_sublist.map _)⟩ (Heap.SameBut.update ..))))
  rw [←xZ nd hj,mH,←h3];obtain⟨l⟩:=es
  simp [Array.eraseIdxIfInBounds];split
  ·simp
  ·rename_i hh;rw [List.eraseIdx_of_length_le (by simpa using hh)]
theorem mP(d a:Addr):MeetsIn prog w (Builtin.«dict.pop» ⟨[.ref d,.ref a],[]⟩) (fun A R s=>knd.room A.in1∧∃k xs p,knd.is s.heap k a∧s.heap.DictOfH knd d xs∧xs.length≤sizeLine∧atKey xs k=some p∧
 ∀h',h'.DictOfH knd d (xs.filter fun x=>decide (x.1≠k))→Heap.SameBut d s.heap h'→R (.ok (.ret p.2)) {s with heap:=h',toks:=s.toks+knd.draws k}):=
 .of_wp fun A R s ⟨hu,k,xs,p,hk,hm,hz,hp,h⟩=>by
  obtain⟨o,es,ep,h1,_,h2,h3,_⟩:=id hm
  have ne:es.isEmpty=false:=by
   cases xs with
   |nil=>cases hp
   |cons x r=>
    have:=size_of_entries h3
    rw [List.length_cons] at this;rw [Array.isEmpty_eq_false_iff_exists_mem];exact⟨es[0]'(by omega),Array.getElem_mem _⟩
  unfold Builtin.«dict.pop»;refine wpAny_bind ?_;unfold Builtin.Dict.keyAndDefault;refine wpAny_bind (wpAny_notOrdered_dict hm.typeIs ?_);show wpAny _ _ (pure (d,Value.ref a,Option.none)) _ _ s;refine wpAny_pure ?_;have kp:(keyPart (Value.ref a)).isSome=false:=rfl
  simp only [kp,Bool.false_eq_true,if_false];refine wpAny_bind (wpAny_dictEntries h1 h2 (wpAny_bind (wpAny_pure ?_)));rw [ne];simp only [Bool.false_eq_true,if_false];refine wpAny_bind (ra hu hk hm hp hz fun h' e ev oW hs=>?_);simp only [Option.isNone_some,Bool.false_eq_true,if_false];exact wpAny_bind (wpAny_letGo (wpAny_pure ⟨e.val,rfl,by rw [ev];exact h h' oW hs⟩))
theorem nV{o:Obj}{es:Array DictEntry}{ep:Nat}{Q:Value→Shared→Prop}(lo:(d==sysModules)=false)(h1:s.heap.get? d=some o)(hc:o.ExactDict)(h2:o.data=.dict es ep)
 (hQ:Q (.ref s.heap.objs.size) {s with heap:=s.heap.push {cls:=.type "dict_keyiterator",data:=.fields #[.ref d,.int 0 0,.int es.size 0,.int ep 0]}}):wpAny (model prog w) A (pyIter (.ref d)) Q E s:=by
 have T:s.TypeIs (.ref d) "dict":=⟨o,h1,hc.1⟩
 refine wpAny_pyIter_slot T F.slot_dict_iter (wpAny_call_entry F.slot_dict_iter T F.entry_dict_iter ?_ (F.args_dict_iter_1 _));unfold Builtin.«dict.__iter__» Builtin.Dict.dictSlotNone;refine wpAny_bind (wpAny_bind (wpAny_notOrdered_dict T ?_));show wpAny _ _ (pure (Value.ref d):Sem Value) _ _ s;refine wpAny_pure ?_;show wpAny _ _ (Builtin.Dict.showsAll d>>=fun _=>_) _ _ s;unfold Builtin.Dict.showsAll;rw [if_neg (by rw [lo];exact zzf)];refine wpAny_bind (wpAny_pure (wpAny_bind (wpAny_dictEntries h1 h2 (wpAny_bind (wpAny_dictEpoch h1 h2 ?_)))));refine wpAny_bind (wpAny_newObj_type (wpAny_pure ⟨_,rfl,"dict_keyiterator",_,⟨_,Heap.get?_push_size _ rfl,rfl⟩,F.slot_dict_keyiterator_next.lookup,?_⟩))
 simpa [rawInt] using hQ
theorem i9{it:Addr}{i ep:Nat}{o:Obj}{es:Array DictEntry}{Q:Option Value→Shared→Prop}(st:s.heap.IsKeyIter it d i es.size ep)(h1:s.heap.get? d=some o)(h2:o.data=.dict es ep)(hi:i<es.size)
 (hQ:∀h',h'.IsKeyIter it d (i+1) es.size ep→Heap.SameBut it s.heap h'→Q (some es[i].key) {s with heap:=h'}):wpAny (model prog w) A (pyNext (.ref it)) Q E s:=by
 obtain⟨oi,g1,g2,g3⟩:=id st
 have own:Builtin.Dict_items.ownsTuple "dict_keyiterator"=false:=by decide
 unfold pyNext;refine wpAny_bind (wpAny_attempt (wpAny_callSpecial?_slot (name:=Str.ofString "__next__") st.typeIs F.slot_dict_keyiterator_next (wpAny_call_entry F.slot_dict_keyiterator_next st.typeIs F.entry_dict_keyiterator_next ?_ (F.args_dict_keyiterator_next_1 _))));refine wpAny_bind (wpAny_pure (wpAny_bind (wpAny_bind ?_)))
 first|refine wpAny_bind (wpAny_typeNameOfWhole_keyiter st.typeIs (wpAny_pure (wpAny_bind (wpAny_fieldsOf g1 g3 ?_))))|refine wpAny_bind (wpAny_typeNameOf_keyiter st.typeIs (wpAny_pure (wpAny_bind (wpAny_fieldsOf g1 g3 ?_))))
 simp only [own,Bool.false_eq_true,if_false];show wpAny _ _ (if(Value.ref d==Value.none)=true then _ else _:Sem _) _ _ s;rw [if_neg (show¬((Value.ref d==Value.none)=true) from zzf)];refine wpAny_bind (wpAny_pure (wpAny_bind (wpAny_dictEntries h1 h2 ?_)));rw [if_neg (by simp)];refine wpAny_bind (wpAny_pure (wpAny_bind (wpAny_dictEpoch h1 h2 ?_)));rw [if_neg (by simp)];refine wpAny_pure ?_;simp only [show¬((i:Int)<0) from by omega,if_false,Int.toNat_natCast,Array.getElem?_eq_getElem hi];refine wpAny_bind ?_
 first|refine wpAny_bind (wpAny_typeNameOfWhole_keyiter st.typeIs (wpAny_pure (wpAny_bind (wpAny_isOneOf_keyiter st.typeIs ?_))))|refine wpAny_bind (wpAny_typeNameOf_keyiter st.typeIs (wpAny_pure (wpAny_bind (wpAny_isOneOf_keyiter st.typeIs ?_))))
 show wpAny _ _ (setField (.ref it) 1 (rawInt ((i:Int)+1))>>=fun _=>_) _ _ s
 have gW:(s.heap.update it (Obj.mapFields (·.setIfInBounds 1 (rawInt ((i:Int)+1))))).IsKeyIter it d (i+1) es.size ep:=
  ⟨_,Heap.get?_update_self _ g1 (Obj.isFreed_of_fields (Obj.data_mapFields g3 _)),(Obj.cls_mapFields ..).trans g2,by rw [Obj.data_mapFields g3];simp [rawInt]⟩
 refine wpAny_bind (wpAny_setField g1 g3 (by simp) (wpAny_bind (wpAny_holding (wpAny_bind (wpAny_isOneOf_keyiter (s:={s with heap:=s.heap.update it (Obj.mapFields (·.setIfInBounds 1 (rawInt ((i:Int)+1))))}) gW.typeIs ?_)))));show wpAny _ _ (pure es[i].key:Sem Value) _ _ _;exact wpAny_pure (wpAny_pure ⟨_,rfl,wpAny_pure (hQ _ gW (Heap.SameBut.update ..))⟩)
theorem qU{it:Addr}{i ep:Nat}{o:Obj}{es:Array DictEntry}{Q:Option Value→Shared→Prop}(hh:A.handled=none)(st:s.heap.IsKeyIter it d i es.size ep)(h1:s.heap.get? d=some o)(h2:o.data=.dict es ep)(hi:es.size≤i)
 (hQ:∀h',Heap.ExtBut it s.heap h'→Q none {s with heap:=h'}):wpAny (model prog w) A (pyNext (.ref it)) Q E s:=by
 obtain⟨oi,g1,g2,g3⟩:=id st
 have own:Builtin.Dict_items.ownsTuple "dict_keyiterator"=false:=by decide
 unfold pyNext;refine wpAny_bind (wpAny_attempt (wpAny_callSpecial?_slot (name:=Str.ofString "__next__") st.typeIs F.slot_dict_keyiterator_next (wpAny_call_entry F.slot_dict_keyiterator_next st.typeIs F.entry_dict_keyiterator_next ?_ (F.args_dict_keyiterator_next_1 _))));refine wpAny_bind (wpAny_pure (wpAny_bind (wpAny_bind ?_)))
 first|refine wpAny_bind (wpAny_typeNameOfWhole_keyiter st.typeIs (wpAny_pure (wpAny_bind (wpAny_fieldsOf g1 g3 ?_))))|refine wpAny_bind (wpAny_typeNameOf_keyiter st.typeIs (wpAny_pure (wpAny_bind (wpAny_fieldsOf g1 g3 ?_))))
 simp only [own,Bool.false_eq_true,if_false];show wpAny _ _ (if(Value.ref d==Value.none)=true then _ else _:Sem _) _ _ s;rw [if_neg (show¬((Value.ref d==Value.none)=true) from zzf)];refine wpAny_bind (wpAny_pure (wpAny_bind (wpAny_dictEntries h1 h2 ?_)));rw [if_neg (by simp)];refine wpAny_bind (wpAny_pure (wpAny_bind (wpAny_dictEpoch h1 h2 ?_)));rw [if_neg (by simp)];refine wpAny_pure ?_;simp only [show¬((i:Int)<0) from by omega,if_false,Int.toNat_natCast,Array.getElem?_eq_none hi];refine wpAny_bind ?_
 first|refine wpAny_bind (wpAny_typeNameOfWhole_keyiter st.typeIs (wpAny_pure ?_))|refine wpAny_bind (wpAny_typeNameOf_keyiter st.typeIs (wpAny_pure ?_))
 show wpAny _ _ (setField (.ref it) 0 .none>>=fun _=>_) _ _ s
 refine wpAny_bind (wpAny_setField g1 g3 (by simp) ?_);show wpAny _ _ (newExc (.type "StopIteration") []>>=fun _=>_) _ _ _
 refine wpAny_bind ?_;simp only [newExc,newTuple];refine wpAny_bind (wpAny_newObj_type (wpAny_bind (m:=firstArgMember _ _) (wpAny_of_eq (a:=Value.none) (by first|rfl|(simp only [firstArgMember];rfl)) (wpAny_newObj_type ?_ (by size_fits)))) (by size_fits));simp only [raiseNew];refine wpAny_bind (wpAny_handled ?_);rw [show A.in1.handled=none from hh];refine wpAny_bind (wpAny_pure (wpAny_throw ?_));refine wpAny_bind (wpAny_isInstance (T:="StopIteration") (b:=true) ⟨_,Heap.get?_push_size _ rfl,rfl⟩ isSubtype_stop ?_);exact wpAny_pure (hQ _ (((Heap.SameBut.update ..).extBut.push _).push _))
end
end L2
namespace L2
open PySem PySem.Spec PyProof.Rows
theorem KT.drop{H:Hp}{aB:List (List Key×V)}{xs:List (List Key×Addr×Value)}(r:KT H aB xs)(k:List Key):KT H (eX aB k) (xs.filter fun x=>decide (x.1≠k)):=by
 unfold eX
 induction r with
 |nil=>exact .nil
 |@cons p q ps qs h t ih=>
  rw [List.filter_cons,List.filter_cons,←h.1];split
  ·exact .cons h ih
  ·exact ih
theorem KT.len{H:Hp}{aB:List (List Key×V)}{xs:List (List Key×Addr×Value)}(r:KT H aB xs):aB.length=xs.length:=Paired.length r
section
variable{X:Cx}{pins:List (Addr×Obj)}{σ:St}{H:Hp}{s:Shared}{a b:Addr}{aB:List (List Key×V)}{k:List Key}{A:Around}{E:Value→Shared→Prop}
theorem Fw{Q:Value→Shared→Prop}(I:Inv X pins σ H s)(e:Rd H a (.dT aB))(h:∀t s',Inv X pins σ H s'→Q (.int aB.length t) s'):wpAny (model X.prog X.w) A (call (.builtin "len") [.ref a]) Q E s:=by
 obtain⟨z,lo,xs,rel,dd⟩:=gv I.hok e
 refine E5 lo dd (by rw [←rel.len];rw [sizeLine_eq] at z;omega) ?_;rw [←rel.len];exact h _ _ (I.tok _)
theorem Ea{v:V}{Q:Value→Shared→Prop}(hu:A.units+1<cLine)(I:Inv X pins σ H s)(e:H a=some (.dT aB))(eb:H b=some (.tup (k.map kV)))(l:gq aB k=some v)
 (h:∀w' s',Inv X pins σ (upd H a (.dT (eX aB k))) s'→RelV v w'→Q w' s'):wpAny (model X.prog X.w) A (call (.builtin "dict.pop") [.ref a,.ref b]) Q E s:=by
 obtain⟨z,lo,xs,rel,dd⟩:=wN I.hok e
 obtain⟨w',hw,gu⟩:=i4.some_of (v:=v) (o:=(atKey xs k).map (·.2)) (by rw [←l];exact rel.val k)
 obtain⟨p,hp,hp2⟩:=Option.map_eq_some_iff.mp hw
 refine call_meetsIn PySem.F.slot_dict_pop dd.typeIs PySem.F.entry_dict_pop (PySem.F.args_dict_pop_2 _ _) (mP (knd:=tupleKind (bP X.prog X.w)) a b) ⟨tupleKind_room_in1 hu,k,xs,p,fJ I.hok eb,dd,by rw [←rel.len];exact z,hp,fun h' Dg hs=>?_⟩
 rw [hp2];obtain⟨q,es,ep,hq,h2,h3,h4,_,h5⟩:=Dg
 refine h w' _ (f7 I (by rw [e];exact True.intro) hs ⟨q,hq⟩ ⟨Nat.le_trans (za aB k) z,lo,_,(rel.drop k).keeps fun c ys ec=>?_,q,es,ep,hq,h2,h3,h4,h5⟩) gu
 rw [ag (d8 ec e (fun z=>nomatch z))];exact ec
theorem Inv.freeze(I:Inv X pins σ H s)(e:H a=some (.dT aB)):∃o,Inv X pins σ (upd H a (.frz o (.dT aB))) s:=by
 obtain⟨z,lo,xs,rel,o,es,ep,h1,h2,h3,h4,h5⟩:=(show bV X.prog X.w H s.heap a (.dT aB) from I.hok a _ e)
 refine⟨o,f7 (h':=s.heap) (t':=s.toks) I (by rw [e];exact True.intro) ⟨rfl,fun _ _=>rfl⟩ ⟨o,h1⟩ ⟨h1,z,lo,xs,?_,o,es,ep,h1,h2,h3,h4,h5⟩⟩
 exact KT.keeps (H:=H) rel fun c ys ec=>by rw [ag (d8 ec e (fun z=>nomatch z))];exact ec
end
noncomputable def LK(a:Addr)(o:Obj)(aB:List (List Key×V)):It:=
 ⟨fun i H=>H a=some (.frz o (.dT aB))∧i<aB.length,fun i H x H'=>H'=H∧∃b k v,x=.ref b∧aB[i]?=some (k,v)∧H b=some (.tup (k.map kV)),fun i H=>H a=some (.frz o (.dT aB))∧aB.length≤i⟩
theorem fB{X:Cx}{pins:List (Addr×Obj)}{σ:St}{H:Hp}{s:Shared}{a:Addr}{o:Obj}{aB:List (List Key×V)}(I:Inv X pins σ H s)(e:H a=some (.frz o (.dT aB))):
 (a==sysModules)=false∧s.heap.get? a=some o∧o.ExactDict∧∃es ep,o.data=.dict es ep∧es.size=aB.length∧∀(i:Nat) (h:i<es.size),∃b k v,es[i].key=.ref b∧aB[i]?=some (k,v)∧H b=some (.tup (k.map kV)):=by
 obtain⟨h0,z,lo,xs,rel,o',es,ep,h1,h2,h3,h4,h5⟩:=(show bV X.prog X.w H s.heap a (.frz o (.dT aB)) from I.hok a _ e)
 rw [h0] at h1;cases h1;have hl:es.size=xs.length:=size_of_entries h4
 refine⟨lo,h0,h2,es,ep,h3,hl.trans (KT.len rel).symm,fun i hi=>?_⟩
 have hx:i<xs.length:=by omega
 have e1:es[i]?=(xs[i]?).map (entryOfKey (tupleKind (bP X.prog X.w))):=entry_at h4 i
 rw [zzg hx,Array.getElem?_eq_getElem hi] at e1;have hk:i<aB.length:=by have:=KT.len rel;omega
 have pr:∀{l:List (List Key×V)} {m:List (List Key×Addr×Value)},KT H l m→∀(j:Nat) p q,l[j]?=some p→m[j]?=some q→p.1=q.1∧H q.2.1=some (.tup (p.1.map kV)):=by
  intro l m r
  induction r with
  |nil=>intro j p q h;simp at h
  |cons h t ih=>
   intro j p q h1 h2;cases j with
   |zero=>simp at h1 h2;subst h1 h2;exact⟨h.1,h.2.1⟩
   |succ j=>simp at h1 h2;exact ih j p q h1 h2
 obtain⟨g1,g2⟩:=pr (KT.keeps (H':=H) rel fun _ _ z=>z) i aB[i] xs[i] (zzg hk) (zzg hx)
 refine⟨xs[i].2.1,aB[i].1,aB[i].2,?_,zzg hk,g2⟩;have e2:es[i]=entryOfKey (tupleKind (bP X.prog X.w)) xs[i]:=Option.some.inj e1
 rw [e2]
 rfl
theorem wg{P:Program}{w:World}{K:PySem.W.Frag}{tg:Expr}{a it:Addr}{o:Obj}{es:Array DictEntry}{ep:Nat}{aB:List (List Key×V)}(hd:o.data=.dict es ep)(hl:es.size=aB.length):
 Turn P w K tg (LK a o aB) [it] it (fun i h=>h.IsKeyIter it a i es.size ep) where
 mem:=by simp
 obj:=fun i h st b hb=>by
  have e:b=it:=by simpa using hb
  subst e;obtain⟨q,e,c,d⟩:=st
  exact⟨q,e,fun v z=>by rw [d] at z;cases z⟩
 keep:=fun i h h' st k=>st.at fun o e=>k it (by simp) o e
 item:=by
  intro X hP hw hK hc i pins s σ H E I hf st hg;subst hP hw hK;obtain⟨g1,g2⟩:=hg
  obtain⟨lo,h0,hx,wy,ep',h3,vm,wo⟩:=fB I g1
  rw [hd] at h3;cases h3;obtain⟨f0,f1,f2,f3,f4,f5⟩:=hf it (by simp)
  have hi:i<es.size:=by omega
  refine i9 st h0 hd hi fun h' gW sb=>?_
  obtain⟨b,k,v,e1,e2,e3⟩:=wo i hi
  have I1:Inv X pins σ H {s with heap:=h'}:=I.turned (t':=s.toks) (fun b o hb e=>(sb.2 b hb).trans e) f0 f1 f3 f4 f5
  obtain⟨q,e,c,d⟩:=id gW
  refine⟨_,rfl,ug (s:={s with heap:=h'}) e c d (by decide) ⟨.ref b,H,I1,?_,⟨rfl,b,k,v,rfl,e2,e3⟩,gW,fun b hb=>(hf b hb).1⟩⟩
  rw [e1];exact rfl
 done:=by
  intro X hP hw hK hc i pins s σ H E I hf st hg;subst hP hw hK;obtain⟨g1,g2⟩:=hg
  obtain⟨lo,h0,hx,wy,ep',h3,vm,wo⟩:=fB I g1
  rw [hd] at h3;cases h3;obtain⟨f0,f1,f2,f3,f4,f5⟩:=hf it (by simp)
  exact qU (I.ok.hd hc) st h0 hd (by omega) fun h' eb=>⟨rfl,I.turned (t':=s.toks) (fun b o hb e=>eb b o hb e) f0 f1 f3 f4 f5⟩
 self:=fun _ _ _ _ _ st h=>wpAny_pyIter_keyiter st h
noncomputable def Lv(tl:TE):TI:=fun σ H R=>tl σ H fun x H1=>∃a o aB,x=.ref a∧H1 a=some (.frz o (.dT aB))∧R (LK a o aB) H1
section
variable{X:Cx}{o e:Expr}{apos bC:Pos}{td ty:TE}
theorem EM{tg l:Expr}{tl:TE}(hl:PE X l tl):PI X tg l (Lv tl):=by
 intro pins s σ H R I h;refine bR (hl pins s σ H _ I h) fun v s1 ⟨x,H1,I1,r1,q1⟩=>?_
 obtain⟨a,o,aB,e,hq,q⟩:=q1
 subst e;cases r1;obtain⟨lo,h0,hx,es,ep,h3,vm,wo⟩:=fB I1 hq
 refine nV lo h0 hx h3 ?_;refine⟨s1.heap.objs.size,[s1.heap.objs.size],_,_,H1,rfl,I1.kept (t':=s1.toks) fun b o e=>Heap.get?_push_of_some _ e,wg h3 vm,⟨_,Heap.get?_push_size _ rfl,rfl,rfl⟩,fun b hb=>?_,q⟩
 have e:b=s1.heap.objs.size:=by simpa using hb
 subst e;exact I1.fpOk (Nat.le_refl _) (I1.hok.fresh (Nat.le_refl _))
noncomputable def GL(td ty:TE):TE:=fun σ H Q=>td σ H fun x H1=>∃a,x=.ref a∧De H1 a∧ty σ H1 fun y H2=>∃aB k b v,H2 a=some (.dT aB)∧y=.ref b∧H2 b=some (.tup (k.map kV))∧gq aB k=some v∧Q v (upd H2 a (.dT (eX aB k)))
theorem A8(hu:X.A.units+1<cLine)(ho:PE X o td)(he:PE X e ty)(m:M1 X o "pop" apos e bC):PE X (.Call (.Attribute o "pop" apos) [e] [] bC) (GL td ty):=by
 intro pins s σ H Q I h;refine wpAny_Call_method m.base m.few m.line PySem.F.plainAttrs_dict PySem.F.slot_dict_pop PySem.F.type_dict_pop (bR (ho pins s σ H _ I h) fun u s1 ⟨x,H1,I1,rx,a,ex,d,q1⟩=>?_)
 subst ex;obtain rfl:u=Value.ref a:=rx
 obtain⟨t1,t2,_⟩:=Ey I1 d
 refine⟨t1,t2,?_⟩;rw [m.trees];refine Calls.callWith_builtin rfl (Calls.evalArgs_plain (Calls.spliced_cons (bR (he pins s1 σ H1 _ I1 q1) fun iv s2 ⟨y,H2,I2,ry,aB,k,b,v,ea,ey,eb,l,q2⟩=>Calls.spliced_nil ?_)))
 subst ey;cases(show iv=Value.ref b from ry);exact Ea hu I2 ea eb l fun w' s3 I3 gu=>⟨v,_,I3,gu,q2⟩
end
end L2
namespace L2
open PySem PySem.Spec PyProof.Rows PySem.W
def gM{α:Type}(lt:Nat→Nat→Bool):KasT α→α
 |.ret a=>a
 |.ask i j k=>gM lt (k (lt i j))
def dv{α:Type}(n:Nat)(R:α→Prop):KasT α→Prop
 |.ret a=>R a
 |.ask i j k=>i<n∧j<n∧∀b,dv n R (k b)
theorem dv.bind{α β:Type}{n:Nat}{R:α→Prop}{R':β→Prop}{f:α→KasT β}(hf:∀a,R a→dv n R' (f a)):∀(t:KasT α),dv n R t→dv n R' (t.bind f)
 |.ret a,h=>hf a h
 |.ask i j k,h=>⟨h.1,h.2.1,fun b=>dv.bind hf (k b) (h.2.2 b)⟩
theorem dv.run{α:Type}{n:Nat}{R:α→Prop}(lt:Nat→Nat→Bool):∀(t:KasT α),dv n R t→R (gM lt t)
 |.ret a,h=>h
 |.ask i j k,h=>dv.run lt (k (lt i j)) (h.2.2 _)
theorem yI{α:Type}{n:Nat}{R:α→Prop}{cmp:Nat→Nat→(Bool→Shared→Prop)→Shared→Prop}{lt:Nat→Nat→Bool}{Q:α→Shared→Prop}{s:Shared}
 (hc:∀i j C,i<n→j<n→C (lt i j) s→cmp i j C s):∀(t:KasT α),dv n R t→Q (gM lt t) s→t.kasWp cmp Q s
 |.ret a,_,h=>h
 |.ask i j k,a,h=>hc i j _ a.1 a.2.1 (yI hc (k (lt i j)) (a.2.2 _) h)
abbrev Pm(n:Nat)(p:Array Nat):Prop:=p.toList.Perm (List.range n)
theorem Pm.lt{n:Nat}{p:Array Nat}(h:Pm n p)(h0:0<n)(i:Nat):p.getD i 0<n:=by
 rw [Array.getD_eq_getD_getElem?];cases e:p[i]? with
 |none=>exact h0
 |some x=>
  have:x∈p.toList:=by rw [Array.mem_toList_iff];exact Array.mem_of_getElem? e
  exact List.mem_range.mp (h.mem_iff.mp this)
theorem Pm.rev{n:Nat}{p:Array Nat}(h:Pm n p)(i j:Nat):Pm n (kas_rev p i j):=(mirror_perm p i j _).toList.trans h
theorem Pm.bub{n:Nat}{p:Array Nat}(h:Pm n p)(i j:Nat):Pm n (bubble p i j):=(bubble_perm p i j).toList.trans h
section
variable{n:Nat}(h0:0<n)
include h0
theorem ko{p:Array Nat}(h:Pm n p):∀f m,dv n (fun _=>True) (kas_asc p f m)
 |0,m=>trivial
 |f+1,m=>⟨h.lt h0 _,h.lt h0 _,fun b=>by dsimp only;split;exact trivial;exact ko h f (m+1)⟩
theorem fW:∀f (p:Array Nat) m q,Pm n p→dv n (fun r=>Pm n r.1) (kas_desc f p m q)
 |0,p,m,q,h=>h
 |f+1,p,m,q,h=>⟨h.lt h0 _,h.lt h0 _,fun b=>by
  cases b with
  |true=>
   dsimp only;rw [if_pos rfl];split
   ·exact fW f _ _ _ (h.rev _ _)
   ·exact fW f _ _ _ h
  |false=>
   dsimp only;rw [if_neg (by simp)];exact⟨h.lt h0 _,h.lt h0 _,fun b=>by dsimp only;split;exact h;exact fW f _ _ _ h⟩⟩
theorem mv{p:Array Nat}(h:Pm n p)(m r:Nat):dv n (fun r=>Pm n r.2) (kas_tail3 m r p):=by
 unfold kas_tail3;refine dv.bind (R:=fun _=>True) (fun a _=>?_) _ (ko h0 (h.rev _ _) _ _);exact h.rev 0 m
theorem mC{p:Array Nat}(h:Pm n p)(m r:Nat):dv n (fun r=>Pm n r.2) (kas_descPart m r p):=dv.bind (fun a ha=>by
 split
 ·exact mv h0 (Pm.rev ha _ _) _ _
 ·exact mv h0 ha _ _) _ (fW h0 _ _ _ _ h)
theorem rH{p:Array Nat}(h:Pm n p)(r:Nat):dv n (fun r=>Pm n r.2) (kas_count r p):=dv.bind (fun a _=>by
 split
 ·exact h
 ·split
  ·exact⟨h.lt h0 _,h.lt h0 _,fun b=>by dsimp only;split;exact h;exact mC h0 (h.rev _ _) _ _⟩
  ·exact mC h0 h _ _) _ (ko h0 h _ _)
theorem gO{p:Array Nat}(h:Pm n p)(k:Nat):∀f l r,dv n (fun _=>True) (kas_place p k f l r)
 |0,l,r=>trivial
 |f+1,l,r=>by
  unfold kas_place;split
  ·exact trivial
  ·exact⟨h.lt h0 _,h.lt h0 _,fun b=>by dsimp only;split;exact gO h k f _ _;exact gO h k f _ _⟩
theorem qg:∀f (p:Array Nat) k,Pm n p→dv n (Pm n) (kas_bin f p k)
 |0,p,k,h=>h
 |f+1,p,k,h=>dv.bind (fun l _=>qg f _ _ (h.bub _ _)) _ (gO h0 h k _ _ _)
theorem lV:dv n (Pm n) (kas_sort n):=dv.bind (fun a ha=>by
 split
 ·exact qg h0 _ _ _ ha
 ·exact ha) _ (rH h0 (List.Perm.refl _) n)
end
def nh(n:Nat)(lt:Nat→Nat→Bool):List Nat:=(gM lt (kas_sort n)).toList
theorem iO{n:Nat}(h:0<n)(lt:Nat→Nat→Bool):(nh n lt).Perm (List.range n):=dv.run lt _ (lV h)
section
variable{prog:Program}{w:World}{A:Around}{E:Value→Shared→Prop}{s:Shared}{a:Addr}{vs:List Value}{nss:List (List Int)}
theorem kM{S:Addr}{h:Heap}{c:Nat}{xs ys:Array Value}(e:h.get? S=some (seqObj "list" xs c)):∃c',(h.update S (Obj.mapSeq fun _=>ys)).get? S=some (seqObj "list" ys c'):=⟨_,get?_update_seq e fun _=>ys⟩
theorem kQ{α β:Type}{R:α→β→Prop}{l:List α}{m:List β}(r:Paired R l m):∀{i:Nat} {p:α} {q:β},l[i]?=some p→m[i]?=some q→R p q:=by
 induction r with
 |nil=>intro i p q h;simp at h
 |cons h t ih=>
  intro i p q h1 h2;cases i with
  |zero=>simp at h1 h2;subst h1 h2;exact h
  |succ i=>simp at h1 h2;exact ih h1 h2
def fF(h:Heap)(vs:List Value)(nss:List (List Int)):Prop:=Paired (fun v ns=>∃b o aD n,v=.ref b∧h.get? b=some o∧o.cls=.type "tuple"∧o.data=.seq aD n∧Vals (ns.map V.int) aD.toList∧ns≠[]) vs nss
theorem fF.keep{h h':Heap}(t:fF h vs nss)(k:∀b o,h.get? b=some o→o.cls=.type "tuple"→h'.get? b=some o):fF h' vs nss:=
 Paired.mapP t fun _ _ ⟨b,o,aD,n,e1,e2,e3,e4,e5,e6⟩=>⟨b,o,aD,n,e1,k b o e2 e3,e3,e4,e5,e6⟩
theorem kO{b:Bool}{Q:Bool→Shared→Prop}:∀(ns ms:List Int) (xs ys:List Value) (i:Nat),Vals (ns.map V.int) xs→Vals (ms.map V.int) ys→Q (HT.lexLt ns ms) s→KatLex prog w A b (decide (xs.length<ys.length)) Q (xs.zip ys) i s
 |[],[],_,_,i,.nil,.nil,h=>by simpa [KatLex,HT.lexLt_nil_nil] using h
 |[],m::ms,_,_,i,.nil,.cons _ _,h=>by simpa [KatLex,HT.lexLt] using h
 |n::ns,[],_,_,i,.cons _ _,.nil,h=>by simpa [KatLex,HT.lexLt] using h
 |n::ns,m::ms,_,_,i,.cons (a:=_) (b:=u) h1 t1,.cons (b:=v) h2 t2,h=>by
  obtain⟨t,rfl⟩:=h1
  obtain⟨t',rfl⟩:=h2
  rw [HT.lexLt_cons] at h;refine kat_cons (wpAny_eqBool_int ?_)
  by_cases e:n=m
  ·subst e;rw [if_pos rfl] at h;rw [show(n==n)=true from by simp];refine kat_yes ?_;have:=kO (b:=b) ns ms _ _ (i+1) t1 t2 h
   simp only [List.length_cons,Nat.add_lt_add_iff_right];exact this
  ·rw [if_neg e] at h;rw [show(n==m)=false from by simpa using e];refine kat_no ?_;cases hb:(b&&i==0) with
   |true=>exact oneLt_int h
   |false=>exact kat_one _ _ (PyProof.Rows.lt_int h)
theorem v7{n:Nat}{P:PySem.Fin→Shared→Prop}(ho:s.heap.get? a=some (seqObj "list" vs.toArray n))(h2:2≤vs.length)(CP:vs.length<64)(t:fF s.heap vs nss)
 (h:∀h' c,(∀b o,b≠a→s.heap.get? b=some o→h'.get? b=some o)→h'.get? a=some (seqObj "list" ((nh vs.length fun i j=>HT.lexLt (nss.getD i []) (nss.getD j [])).map fun i=>vs.getD i Value.none).toArray c)→P (.done (.ret .none)) {s with heap:=h'}):
 wpAny (model prog w) A (Builtin.«list.sort» ⟨[.ref a],[]⟩) P E s:=by
 have s1:=Heap.SameBut.update s.heap a (Obj.mapSeq fun _=>(#[]:Array Value))
 obtain⟨e1,ho1⟩:∃e1,(s.heap.update a (Obj.mapSeq fun _=>(#[]:Array Value))).get? a=some (seqObj "list" #[] e1):=⟨_,get?_update_seq ho fun _=>#[]⟩
 have hlen:vs.length=nss.length:=Paired.length t
 generalize hH:(((s.heap.update a (Obj.mapSeq fun _=>(#[]:Array Value))).push (seqObj "tuple" vs.toArray 0)).push (seqObj "list" #[] 0))=H1
 have k1:∀b o,b≠a→s.heap.get? b=some o→H1.get? b=some o:=fun b o hb e=>by rw [←hH];exact Heap.get?_push_of_some _ (Heap.get?_push_of_some _ ((s1.2 b hb).trans e))
 have a1:H1.get? a=some (seqObj "list" #[] e1):=by rw [←hH];exact Heap.get?_push_of_some _ (Heap.get?_push_of_some _ ho1)
 have t1:fF H1 vs nss:=t.keep fun b o e c=>k1 b o (fun z=>by rw [z,ho] at e;cases e;exact absurd (show Value.type "list"=Value.type "tuple" from c) (by decide)) e
 rw [list_sort_plain];refine wpAny_bind (listItems_at ho rfl (wpAny_bind (listUpdate_at ho rfl ?_ (by rw [List.size_toArray,sizeLine_eq];omega) (Nat.zero_le _))));refine wpAny_bind (seqEpoch_at ho1 rfl (wpAny_bind (wpAny_newTuple ?_ (by show vs.length≤_;rw [sizeLine_eq];omega))));refine wpAny_bind (wpAny_newList ?_ (Nat.zero_le _));refine wpAny_holding ?_;show wpAny (model prog w) A _ P E {s with heap:=((s.heap.update a (Obj.mapSeq fun _=>(#[]:Array Value))).push (seqObj "tuple" vs.toArray 0)).push (seqObj "list" #[] 0)}
 rw [hH];dsimp only;have CS:¬vs.toArray.size<2:=by rw [List.size_toArray];omega
 rw [if_neg CS,if_neg CS];have kt:∃fs,KatTups H1 vs fs∧fs.length=vs.length∧∀v∈fs,∃i t,v=.int i t:=by
  clear h ho hlen h2 CP k1 a1 hH t CS
  have go:∀{vs:List Value} {nss:List (List Int)},fF H1 vs nss→∃fs,KatTups H1 vs fs∧fs.length=vs.length∧∀v∈fs,∃i t,v=.int i t:=by
   intro vs nss t
   induction t with
   |nil=>exact⟨[],trivial,rfl,fun v hv=>nomatch hv⟩
   |cons h t ih=>
    obtain⟨fs,i1,i2,i3⟩:=ih
    obtain⟨b,o,aD,n,rfl,g1,g2,g3,g4,g5⟩:=h
    rename_i v ns l l2;cases ns with
    |nil=>exact absurd rfl g5
    |cons m ms=>
     rw [List.map_cons] at g4;cases hi:aD.toList with
     |nil=>rw [hi] at g4;cases g4
     |cons f r=>
      rw [hi] at g4;cases g4 with
      |cons r1 r2=>
       obtain⟨tk,rfl⟩:=r1
       have f0:aD[0]?=some (.int m tk):=by rw [←Array.getElem?_toList,hi];rfl
       exact⟨.int m tk::fs,.cons g1 g2 g3 f0 i1,by simp [i2],fun v hv=>by
        rcases List.mem_cons.mp hv with rfl|hv
        ·exact⟨m,tk,rfl⟩
        ·exact i3 v hv⟩
  exact go t1
 obtain⟨fs,kt1,kt2,kt3⟩:=kt
 refine wpAny_bind (kat_kind (T:=.type "int") (s:={s with heap:=H1}) kt1 (by omega) (fun v hv=>?_) rfl ?_)
 ·obtain⟨i,t,rfl⟩:=kt3 v hv
  exact .now
 have Nz:∀i j (C:Bool→Shared→Prop),i<vs.length→j<vs.length→C (HT.lexLt (nss.getD i []) (nss.getD j [])) {s with heap:=H1}→kas_ask prog w A (tuples' (Value.type "int" !=Value.type "tuple")) vs i j C {s with heap:=H1}:=by
  intro i j C hi hj hC;unfold kas_ask;obtain⟨b,o,aD,n,e1,g1,g2,g3,g4,_⟩:=kQ t1 (zzg hi) (zzg (show i<nss.length by omega))
  obtain⟨b',o',its',n',e1',xk,Ih,g3',g4',_⟩:=kQ t1 (zzg hj) (zzg (show j<nss.length by omega))
  have v1:vs.getD i Value.none=.ref b:=by simp [hi,e1]
  have v2:vs.getD j Value.none=.ref b':=by simp [hj,e1']
  have n1:nss.getD i []=nss[i]'(by omega):=by simp [show i<nss.length by omega]
  have n2:nss.getD j []=nss[j]'(by omega):=by simp [show j<nss.length by omega]
  rw [v1,v2];rw [n1,n2] at hC;refine kat_lt (s:={s with heap:=H1}) g1 g3 xk g3' ?_;have:=kO (prog:=prog) (w:=w) (A:=A) (b:=(Value.type "int" !=Value.type "tuple")) _ _ _ _ 0 g4 g4' hC
  simpa using this
 refine wpAny_bind (wpAny_mono (kat_run (Q:=fun gW s'=>∃p:Array Nat,p.size=vs.length∧arrOf gW=p.map (kas_item (vs.toArray.zip vs.toArray))∧failedOf gW=none∧p=gM (fun i j=>HT.lexLt (nss.getD i []) (nss.getD j [])) (kas_sort vs.length)∧s'={s with heap:=H1})
  rfl h2 CP (fun p' gW s' a1 a2 a3 a4=>⟨p',a1,a2,a3,a4⟩) (yI Nz _ (lV (by omega)) ⟨rfl,rfl⟩)) ?_ fun _ _ e=>e)
 rintro ⟨⟨⟩,gW⟩ s' ⟨p,hp,har,hf,rfl,rfl⟩
 dsimp only;have DO:=kat_snds rfl har
 rw [DO];have s2:=Heap.SameBut.update H1 a (Obj.mapSeq fun _=>List.toArray ((gM (fun i j=>HT.lexLt (nss.getD i []) (nss.getD j [])) (kas_sort vs.length)).toList.map fun i=>vs.getD i Value.none))
 obtain⟨c2,hc2⟩:=kM (ys:=List.toArray ((gM (fun i j=>HT.lexLt (nss.getD i []) (nss.getD j [])) (kas_sort vs.length)).toList.map fun i=>vs.getD i Value.none)) a1
 refine wpAny_bind (seqEpoch_at a1 rfl (wpAny_bind (listUpdate_at a1 rfl ?_ (Nat.zero_le _) (by
  show(List.toArray _).size≤_
  rw [List.size_toArray,zzl,Array.length_toList,hp,sizeLine_eq];omega))))
 rw [hf];simp only [bne_self_eq_false,Bool.false_eq_true,if_false];exact wpAny_pure (h _ c2 (fun b o hb e=>(s2.2 b hb).trans (k1 b o hb e)) hc2)
end
end L2
namespace L2
open PySem PySem.Spec PyProof.Rows
theorem vR:typeLookup (.type "list") "keys"=pure none:=by rw [typeLookup_type,builtinLookup_eq_fast];kernel_rfl
theorem qj:entryFor table "dict.update.loop"=some Builtin.«dict.update.loop»:=entryFor_of_tree (by kernel_rfl)
theorem hZ:plainId "dict.update.loop"=true:=by decide+kernel
section
variable{prog:Program}{w:World}{A:Around}{E:Value→Shared→Prop}{s:Shared}{a:Addr}{o:Obj}{xs:Array Value}{k:Nat}
theorem Ba{Q:Option Value→Shared→Prop}(hx:s.heap.get? a=some o)(hc:o.cls=.type "list")(G6:o.data=.seq xs k)(hd:o.dict=none)(hA:A.handled=none)
 (h:∀h' tk,(∀b o,s.heap.get? b=some o→h'.get? b=some o)→Q none {s with heap:=h',toks:=tk}):wpAny (model prog w) A (getAttr? (.ref a) "keys") Q E s:=by
 obtain⟨c,dct,dat,sl⟩:=o
 simp only at hc G6 hd;subst hc G6 hd;obtain⟨hp,g,d,tk,os⟩:=s
 have hT:∀J6,(⟨hp,g,d,J6,os⟩:Shared).TypeIs (.ref a) "list":=fun _=>⟨_,hx,rfl⟩
 have f1:=sub_AttributeError
 have f3:=F.slot_list_getattribute.lookup
 have f4:=F.slot_list_getattribute.bind (.ref a)
 have f5:=am_list_getattr_none
 unfold getAttr? getAttrBy? getAttrBy
 repeat (any_goals (first|assumption|exact hT _|((with_reducible show wpAny _ _ (call (Value.builtin "list.__getattribute__") _ _) _ _ _);refine call_meets F.slot_list_getattribute (hT _) am_entry_list_getattribute (F.args_list_getattribute_2 _ _) (meets_getattribute_miss_list a xs k sl "keys" _ vR (by decide) (by size_fits)) ⟨hx,hA,fun h' J6 e uX=>?_⟩)|wp_step))
 obtain⟨t',u',he⟩:=uX.there
 show wpAny _ _ (getattributeRaised _ _ _ _ _ _ _) _ _ _
 unfold getattributeRaised
 repeat (any_goals (first|assumption|wp_step))
 exact h h' J6 uX.keeps
end
def gy(aB more:List (List Key×V)):List (List Key×V):=more.foldl (fun acc kv=>putK acc kv.1 kv.2) aB
abbrev iQ(K:PySem.W.Frag)(H:Hp)(vs:List V)(aB:List (List Key×V)):Prop:=Paired (fun v kv=>∃q b,v=V.ref q∧eJ K H q [.ref b,kv.2]∧H b=some (.tup (kv.1.map kV))) vs aB
section
variable{X:Cx}{pins:List (Addr×Obj)}{σ:St}{l d it:Addr}{vs:List V}{A:Around}{E:Value→Shared→Prop}{R:Result→Shared→Prop}
theorem FF{H:Hp}{s:Shared}{a b:Addr}{aB:List (List Key×V)}{k:List Key}{v:V}{r:Value}{Q:Unit→Shared→Prop}(hu:A.units<cLine)(I:Inv X pins σ H s)(e:H a=some (.dT aB))(eb:H b=some (.tup (k.map kV)))(l:aB.length<sizeLine)(rv:RelV v r)
 (h:∀h' t,Heap.SameBut a s.heap h'→Inv X pins σ (upd H a (.dT (putK aB k v))) {s with heap:=h',toks:=t}→Q () {s with heap:=h',toks:=t}):wpAny (model X.prog X.w) A (dictSet a (.ref b) r) Q E s:=by
 obtain⟨z,lo,xs,rel,dd⟩:=wN I.hok e
 have hz:xs.length≤sizeLine:=by rw [←rel.len];exact z
 have hl:(putK aB k v).length≤sizeLine:=by have:=dN aB k v;omega
 refine wpAny_dictSet_heap (hsz:=hz) (knd:=tupleKind (bP X.prog X.w)) hu (fJ I.hok eb) dd fun h' Dg hs=>h h' _ hs ?_
 obtain⟨q,es,ep,hq,h2,h3,h4,_,h5⟩:=Dg
 refine f7 I (by rw [e];exact True.intro) hs ⟨q,hq⟩ ⟨hl,lo,_,(rel.put k eb rv).keeps fun c ys ec=>?_,q,es,ep,hq,h2,h3,h4,h5⟩
 rw [ag (d8 ec e (fun z=>nomatch z))];exact ec
theorem eJ.far{K:PySem.W.Frag}{H H':Hp}{a:Addr}{xs:List V}(h:eJ K H a xs)(e:∀b,b≠d→H' b=H b){acc:List (List Key×V)}(hd:H d=some (.dT acc)):eJ K H' a xs:=by
 rcases h with(h|⟨o,h⟩)|h
 ·exact .inl (.inl (by rw [e a (d8 h hd (fun z=>nomatch z))];exact h))
 ·exact .inl (.inr ⟨o,by rw [e a (d8 h hd (fun z=>nomatch z))];exact h⟩)
 ·exact .inr h
theorem gk.far{K:PySem.W.Frag}{H H':Hp}{a:Addr}{xs:List V}(h:gk K H a xs)(e:∀b,b≠d→H' b=H b){acc:List (List Key×V)}(hd:H d=some (.dT acc)):gk K H' a xs:=by
 rcases h with(h|⟨o,h⟩)|h
 ·exact .inl (.inl (by rw [e a (d8 h hd (fun z=>nomatch z))];exact h))
 ·exact .inl (.inr ⟨o,by rw [e a (d8 h hd (fun z=>nomatch z))];exact h⟩)
 ·exact .inr h
theorem iQ.far{K:PySem.W.Frag}{H H':Hp}{aB:List (List Key×V)}(e:∀b,b≠d→H' b=H b){acc:List (List Key×V)}(hd:H d=some (.dT acc)):∀{vs:List V},iQ K H vs aB→iQ K H' vs aB:=fun h=>
 Paired.mapP h fun _ _ ⟨q,b,e1,e2,e3⟩=>⟨q,b,e1,eJ.far e2 e hd,by rw [e b (d8 e3 hd (fun z=>nomatch z))];exact e3⟩
theorem BY(hu:A.units+1<cLine)(hh:A.handled=none):∀(rest:List (List Key×V)) (i:Nat) (j:Int) (acc:List (List Key×V)) (H:Hp) (s:Shared),Inv X pins σ H s→eo X pins H it→s.heap.IsListIter it l i→gk X.K H l vs→iQ X.K H (vs.drop i) rest→H d=some (.dT acc)→acc.length+rest.length≤sizeLine→
 (∀s' H',Inv X pins σ H' s'→H' d=some (.dT (gy acc rest))→(∀b,b≠d→H' b=H b)→R (.ok (.ret .none)) s')→codeAny (model X.prog X.w) A (.builtin "dict.update.loop" ⟨[.ref d,.ref it,rawInt j,.none],[]⟩) R s:=by
 intro rest
 induction rest with
 |nil=>
  intro i j acc H s I hf st hl pr hd hz k;obtain⟨aD,rv,p,_⟩:=I.list hl
  obtain⟨f0,f1,f2,f3,f4,f5⟩:=hf
  have hi:vs.length≤i:=List.drop_eq_nil_iff.mp (by cases h:vs.drop i with|nil=>rfl|cons x r=>rw [h] at pr;cases pr)
  have hle:=rv.length
  refine codeAny_builtin qj ?_;rw [Around.under_plainId hZ _];show wpAny _ A.in1 (pyNext (.ref it)>>=fun z=>_) _ _ s
  refine wpAny_bind (wpAny_pyNext_list_end hh st p.isList (by simp;omega) fun h' eb=>?_)
  show wpAny _ _ (Builtin.Dict.addKeywords d []>>=fun _=>_) _ _ _
  exact wpAny_bind (wpAny_pure (wpAny_pure (k _ H (I.turned (t':=s.toks) (fun b o hb e=>eb b o hb e) f0 f1 f3 f4 f5) hd fun _ _=>rfl)))
 |cons kv rest ih=>
  intro i j acc H s I hf st hl pr hd hz k;obtain⟨aD,rv,p,_⟩:=I.list hl
  obtain⟨f0,f1,f2,f3,f4,f5⟩:=id hf
  obtain⟨v,vr,hv,⟨q,b,rfl,hq,hb⟩,pr'⟩:∃v vr,vs.drop i=v::vr∧(∃q b,v=V.ref q∧eJ X.K H q [.ref b,kv.2]∧H b=some (.tup (kv.1.map kV)))∧iQ X.K H vr rest:=by
   cases h:vs.drop i with
   |nil=>rw [h] at pr;cases pr
   |cons x r=>rw [h] at pr;cases pr with|cons h1 h2=>exact⟨x,r,rfl,h1,h2⟩
  have Nd:vs[i]?=some (.ref q):=by rw [←List.head?_drop,hv];rfl
  have N1:vs.drop (i+1)=vr:=by rw [←List.drop_drop,hv];rfl
  obtain⟨u,FU,ru⟩:=rv.get Nd
  cases(show u=Value.ref q from ru);refine codeAny_builtin qj ?_;rw [Around.under_plainId hZ _];show wpAny _ A.in1 (pyNext (.ref it)>>=fun z=>_) _ _ s
  refine wpAny_bind (wpAny_pyNext_list_item st p.isList (x:=Value.ref q) (by simpa using FU) fun h' gW sb=>?_)
  have I1:Inv X pins σ H {s with heap:=h'}:=I.turned (t':=s.toks) (fun b o hb e=>(sb.2 b hb).trans e) f0 f1 f3 f4 f5
  obtain⟨aK,rv2,p2,_⟩:=I1.tuple hq
  obtain⟨o2,g1,g2,n2,g3⟩:=id p2
  obtain⟨u1,u2,rfl,ru1,ru2⟩:∃u1 u2,aK=[u1,u2]∧RelV (.ref b) u1∧RelV kv.2 u2:=by
   cases rv2 with|cons h1 h2=>cases h2 with|cons h3 h4=>cases h4;exact⟨_,_,rfl,h1,h3⟩
  cases(show u1=Value.ref b from ru1);show wpAny _ A.in1 (holding [Value.ref q] _>>=fun z=>_) _ _ {s with heap:=h'};refine wpAny_bind (wpAny_holding (wpAny_bind (wpAny_tryCatch ?_)));unfold Builtin.Dict.pairItems;refine wpAny_bind (wpAny_typeOf (s:={s with heap:=h'}) ⟨o2,g1,g2⟩ ?_);rw [if_pos (by decide)];refine wpAny_bind (wpAny_seqItems g1 g3 (wpAny_pure ?_));show wpAny _ A.in1 (holding [Value.ref b,u2] (dictSet d (.ref b) u2)) _ _ _;refine wpAny_holding (FF hu I1 hd hb (by rw [List.length_cons] at hz;omega) ru2 fun h2 t2 OZ I2=>?_)
  have far:∀c,c≠d→upd H d (.dT (putK acc kv.1 kv.2)) c=H c:=fun c hc=>ag hc
  have nd:it≠d:=fun z=>by rw [z,hd] at f0;cases f0
  refine wpAny_pure ⟨plainId_quiet hZ _,ih (i+1) (j+1) _ _ _ I2 ⟨by rw [far _ nd];exact f0,f1,f2,f3,f4,f5⟩ (gW.at fun o e=>(OZ.2 it nd).trans e) (gk.far hl far hd) (iQ.far far hd (by rw [N1];exact pr')) av ?_ fun s' H' J1 J2 J3=>k s' H' J1 J2 fun c hc=>(J3 c hc).trans (far c hc)⟩
  have:=dN acc kv.1 kv.2
  rw [List.length_cons] at hz;omega
theorem qP(hc:X.calm=true)(hu:X.A.units+3<cLine):cT X (.type "dict") (fun xs H Q=>∃l vs aB,xs=[V.ref l]∧gk X.K H l vs∧iQ X.K H vs aB∧∀p o,H p=none→Q (.ref p) (upd H p (.frz o (.dT (gy [] aB))))):=by
 intro pins s σ H xs us Q I r h;obtain⟨l,vs,aB,rfl,hl,pr,q⟩:=h
 obtain⟨u,rfl,ru⟩:=vals1 r
 cases ru;have hh:X.A.handled=none:=I.ok.hd hc
 refine callType_codes (Q₁:=fun obj s₁=>obj=.ref s.heap.objs.size∧s₁={s with heap:=s.heap.push {cls:=.type "dict",data:=.dict #[]}}) F.kt_called_dict (F.kt_typeCall_dict_1 _) F.entry_dict_init (kt_code_dict_new _ ⟨rfl,rfl⟩) ?_
 rintro obj s₁ ⟨rfl,rfl⟩
 have hn:H s.heap.objs.size=none:=I.hok.fresh (Nat.le_refl _)
 have I1:=I.laid (a:=s.heap.objs.size) (o:=.dT []) (t':=s.toks) (fun _ _ q=>Heap.get?_push_of_some _ q) (Nat.le_refl _) (pN s.heap I.big)
 have T:(⟨s.heap.push {cls:=.type "dict",data:=.dict #[]},s.gens,s.drawn,s.toks,s.os⟩:Shared).TypeIs (.ref s.heap.objs.size) "dict":=⟨_,Heap.get?_push_size _ rfl,rfl⟩
 have far:∀c,c≠s.heap.objs.size→upd H s.heap.objs.size (.dT []) c=H c:=fun c hc=>ag hc
 have same:aF H (upd H s.heap.objs.size (.dT [])):=bD hn
 have Hg:gk X.K (upd H s.heap.objs.size (.dT [])) l vs:=same.seq hl
 obtain⟨aD,rv,p,hz⟩:=I1.list Hg
 obtain⟨o,n,g1,g2,g3,g4⟩:=id p
 refine⟨T,F.args_dict_init_2 _ _,?_⟩;unfold Builtin.«dict.__init__» Builtin.Dict.selfAndRest;refine wpAny_bind (wpAny_bind (wpAny_notOrdered_dict T ?_));show wpAny _ _ (pure (s.heap.objs.size,[Value.ref l]):Sem _) _ _ _;refine wpAny_pure ?_;show wpAny _ _ (Builtin.Dict.updateFrom "dict.__init__" s.heap.objs.size (.ref l) [] .none) _ _ _;unfold Builtin.Dict.updateFrom;refine wpAny_bind (wpAny_typeOf ⟨o,g1,g2⟩ ?_);rw [if_pos (by decide)];refine wpAny_bind (Ba g1 g2 g4 g3 hh fun h' tk hk=>?_);rw [if_pos (by decide)];refine wpAny_bind (wpAny_rule ?_);have I2:=I1.kept (h':=h') (t':=tk) hk
 obtain⟨its',rv',p',_⟩:=I2.list Hg
 refine wpAny_bind (wpAny_pyIter_list p'.isList ?_);have I3:=I2.kept (h':=h'.push {cls:=.type "list_iterator",data:=.fields #[.ref l,.int 0 0]}) (t':=tk) fun b o e=>Heap.get?_push_of_some _ e
 have N3:(h'.push {cls:=.type "list_iterator",data:=.fields #[.ref l,.int 0 0]}).IsListIter h'.objs.size l 0:=⟨_,Heap.get?_push_size _ rfl,rfl,rfl⟩
 have OU:eo X pins (upd H s.heap.objs.size (.dT [])) h'.objs.size:=I2.fpOk (Nat.le_refl _) (I2.hok.fresh (Nat.le_refl _))
 refine wpAny_pure ⟨plainId_quiet hZ _,BY (X:=X) (A:=X.A.in1) (pins:=pins) (σ:=σ) (l:=l) (d:=s.heap.objs.size) (it:=h'.objs.size) (vs:=vs) (by show X.A.units+1+1<cLine;omega) (show X.A.in1.handled=none from hh) aB 0 0 [] _ _ I3 OU N3 Hg ?_ av ?_ fun s' H' J1 J2 J3=>⟨rfl,?_⟩⟩
 ·exact Paired.mapP pr fun _ _ ⟨q,b,e1,e2,e3⟩=>⟨q,b,e1,(show eJ X.K _ q _ from by
   rcases e2 with(e2|⟨o,e2⟩)|e2
   ·exact .inl (.inl (same _ _ e2))
   ·exact .inl (.inr ⟨o,same _ _ e2⟩)
   ·exact .inr e2),same _ _ e3⟩
 ·have:=Paired.length pr
  rw [List.length_nil];omega
 ·obtain⟨o,J4⟩:=J1.freeze J2
  have e:upd H' s.heap.objs.size (.frz o (.dT (gy [] aB)))=upd H s.heap.objs.size (.frz o (.dT (gy [] aB))):=by
   funext b
   by_cases hb:b=s.heap.objs.size
   ·rw [hb,av,av]
   ·rw [ag hb,ag hb,J3 b hb,ag hb]
  rw [e] at J4;exact⟨.ref s.heap.objs.size,_,J4,rfl,q _ _ hn⟩
end
end L2
namespace L2
open PySem PySem.Spec PyProof.Rows
structure yL(H Hw:Hp)(d:Addr)(o:Obj)(aB:List (List Key×V)):Prop where
 at_:Hw d=some (.frz o (.dT aB))
 dt:H d=some (.dT aB)
 same:∀b u,H b=some u→b≠d→Hw b=some u
 new:∀b u,Hw b=some u→H b=none→∃ob,u=.frz ob bK
section
variable{P:Program}{w:World}{H Hw:Hp}{d:Addr}{o:Obj}{aB:List (List Key×V)}{fs:List Addr}{h h':Heap}
theorem yL.back(z:yL H Hw d o aB)(u:Un fs [] Hw Hw h h')(k:dG P w Hw h)(k':dG P w Hw h'):Un fs [] H H h h'∧dG P w H h'∧h'.get? d=some o:=by
 have fz:∀b ob,Hw b=some (.frz ob bK)→∀o,h.get? b=some o→h'.get? b=some o:=fun b ob e o q=>by
  have h1:h.get? b=some ob:=(k b _ e).1
  have h2:h'.get? b=some ob:=(k' b _ e).1
  rw [h1] at q;cases q;exact h2
 have st:∀c v,Hw c=some v→(∀ob u,v≠.frz ob u)→H c=some v:=fun c v e n=>by
  cases q:H c with
  |none=>obtain⟨ob,rfl⟩:=z.new c v e q;exact absurd rfl (n ob _)
  |some u=>
   by_cases hc:c=d
   ·subst hc;rw [z.at_] at e;cases e;exact absurd rfl (n _ _)
   ·rw [z.same c u q hc] at e;exact e
 refine⟨⟨fun b ob e n hb hx=>?_,fun b ob e n hb hx=>?_,fun b ob e n hx=>n,fun b ob e hx=>u.there b ob e hx,fun _ _ e=>e,fun _ _ _ e=>e,fun b ps e=>⟨#[],by simpa using e⟩⟩,fun b v e=>?_,(k' d _ z.at_).1⟩
 ·cases q:Hw b with
  |none=>exact u.keep b ob e q hb hx
  |some v=>obtain⟨o',rfl⟩:=z.new b v q n;exact fz b o' q ob e
 ·cases q:Hw b with
  |none=>exact u.slot b ob e q hb hx
  |some v=>obtain⟨o',rfl⟩:=z.new b v q n;exact⟨ob.slots,fz b o' q ob e⟩
 ·have go:∀v,bV P w Hw h' b v→bV P w H h' b v:=fun v y=>y.stay (fun _ _ _ r=>r) (fun c r=>st c _ r (fun _ _ z=>nomatch z)) fun c xs r=>st c _ r (fun _ _ z=>nomatch z)
  by_cases hb:b=d
  ·subst hb;rw [z.dt] at e;cases e;exact go _ (k' b _ z.at_).2
  ·exact go v (k' b v (z.same b v e hb))
end
structure rD(p y:Str)(params:Arguments)(body:Expr)(scope:Scope):Prop where
 body:∃q1 q2 q3 q4 q5 j,body=.Subscript (.Subscript (.Name y q1) (.Name p q2) q3) (.Constant (.int 0) j q4) q5
 sc:pB [p] [y] scope
 d1:(p==("__debug__":Str))=false
 d2:(p==("__classdict__":Str))=false
 d3:(y==("__debug__":Str))=false
 d4:(y==("__classdict__":Str))=false
section
variable{X:Cx}{pins:List (Addr×Obj)}{σ:St}{H:Hp}{s:Shared}{d f c c' b:Addr}{o oc:Obj}{aB:List (List Key×V)}{kk:Nat}{p y qual:Str}{params:Arguments}{body:Expr}{scope:Scope}{pm eW:Value}{cU:Array Value}{ct:Tok}{k:List Key}{q:Addr}{n:Int}{r:List V}{A:Around}{E:Value→Shared→Prop}
theorem wU(hA:A=X.A.in1)(L:rD p y params body scope)(hr:di (kk+1) X.A)(I:Inv X pins σ H s)(hd:H d=some (.dT aB))(ho:s.heap.get? d=some o)
 (dC:X.env.cells.lookup y=some c) (Gu:X.s₀.heap.objs.size≤c) (Nj:s.heap.IsCell c (some (.ref d)))
 (hf:H f=some (.frz (PySem.W.kla_obj "<lambda>" qual params body scope [(y,c)] pm c' eW) bK)) (gD:H c'=some (.frz oc bK)) (rZ:oc.data=.fields cU) (CV:cU[1]?=some (.str qual ct))
 (hb:∀u,bindArgs (PySem.W.kla_fn "<lambda>" qual params body scope [(y,c)] pm (.ref c') eW) ⟨[u],[]⟩=pure ([p].zip [u]))
 (Av:H b=some (.tup (k.map kV))) (hv:gq aB k=some (.ref q)) (hq:eJ X.K H q (.int n::r)):
 wpAny (model X.prog X.w) A (call (.ref f) [.ref b]) (fun u s'=>(∃t,u=.int n t)∧Inv X pins σ H s'∧s'.heap.get? d=some o) E s:=by
 subst hA;obtain⟨q1,q2,q3,q4,q5,j,rfl⟩:=L.body
 obtain⟨ocell,g1,g2⟩:=id Nj
 have BR:H c=none:=I.freeC y c dC
 obtain⟨z0,lo,xs,rel,o',es,ep,h1,h2,h3,h4,h5⟩:=(show bV X.prog X.w H s.heap d (.dT aB) from I.hok d _ hd)
 rw [ho] at h1;cases h1;have If:Inv X pins σ (upd H d (.frz o (.dT aB))) s:=by
  refine f7 (h':=s.heap) (t':=s.toks) I (by rw [hd];exact True.intro) ⟨rfl,fun _ _=>rfl⟩ ⟨o,ho⟩ ⟨ho,z0,lo,xs,?_,o,es,ep,ho,h2,h3,h4,h5⟩
  exact KT.keeps (H:=H) rel fun c ys ec=>by rw [ag (d8 ec hd (fun z=>nomatch z))];exact ec
 have Oz:c≠d:=fun z=>by rw [z,hd] at BR;cases BR
 have OG:f≠d:=d8 hf hd (fun z=>nomatch z)
 have LA:c'≠d:=d8 gD hd (fun z=>nomatch z)
 have Cp:q8 [(c,ocell)] (upd H d (.frz o (.dT aB))) (dZ X.stack) s.heap:=by
  have lk:∀b o,List.lookup b [(c,ocell)]=some o→b=c∧o=ocell:=fun b o e=>by
   rw [List.lookup_cons] at e;cases wD:b==c with
   |true=>rw [wD] at e;cases e;exact⟨beq_iff_eq.mp wD,rfl⟩
   |false=>rw [wD] at e;cases e
  refine⟨fun b o e=>?_,fun b o e=>?_,fun b o e=>?_⟩
  ·obtain⟨rfl,rfl⟩:=lk b o e;exact g1
  ·obtain⟨rfl,rfl⟩:=lk b o e;rw [ag Oz];exact BR
  ·obtain⟨rfl,rfl⟩:=lk b o e
   intro LD;rcases List.mem_cons.mp (I.stkSub b LD) with z|z
   ·exact I.cne y b dC z
   ·obtain⟨_,o',h4,_⟩:=I.ok.funs.mem z
    exact absurd (Heap.lt_size h4) (Nat.not_lt.mpr Gu)
 have zc:List.lookup c [(c,ocell)]=some ocell:=by simp
 have Jf:∀x c1,List.lookup x [(y,c)]=some c1→x=y∧c1=c:=fun x c1 e=>by
  rw [List.lookup_cons] at e;cases hx:x==y with
  |true=>rw [hx] at e;cases e;exact⟨beq_iff_eq.mp hx,rfl⟩
  |false=>rw [hx] at e;cases e
 have zb:∀b o,List.lookup b [(c,ocell)]=some o→X.base.get? b=none:=fun b o e=>by
  rw [List.lookup_cons] at e;cases wD:b==c with
  |true=>
   have:=beq_iff_eq.mp wD;subst this
   cases y':X.base.get? b with
   |none=>rfl
   |some o'=>exact absurd (Heap.lt_size (I.ok.bs b o' y').1) (Nat.not_lt.mpr Gu)
  |false=>rw [wD] at e;cases e
 have Nu:eJ X.K (upd H d (.frz o (.dT aB))) q (.int n::r):=eJ.far hq (fun b hb=>ag hb) hd
 have O4:upd H d (.frz o (.dT aB)) b=some (.tup (k.map kV)):=by rw [ag (d8 Av hd (fun z=>nomatch z))];exact Av
 have wd:yL H (withZ [(c,ocell)] (upd H d (.frz o (.dT aB)))) d o aB:=by
  have nz:∀b u,H b=some u→List.lookup b [(c,ocell)]=none:=fun b u e=>by
   rw [List.lookup_cons];cases wD:b==c with
   |true=>have:=beq_iff_eq.mp wD;subst this;rw [BR] at e;cases e
   |false=>rfl
  refine⟨by rw [aj (nz d _ hd),av],hd,fun b u e hb=>by rw [aj (nz b u e),ag hb];exact e,fun b u e n=>?_⟩
  cases hz:List.lookup b [(c,ocell)] with
  |some ob=>rw [bg hz] at e;cases e;exact⟨_,rfl⟩
  |none=>
   rw [aj hz] at e;have OJ:b≠d:=fun z=>by rw [z,hd] at n;cases n
   rw [ag OJ,n] at e;cases e
 refine wpAny_call (codeAny_mono (lam_run (k:=kk) (E:=fun _ _ _=>False) (Q:=fun v H'=>v=.int n∧H'=withZ [(c,ocell)] (upd H d (.frz o (.dT aB)))) (Z:=[(c,ocell)]) (ws:=[.ref d]) (vs:=[.ref b]) (us:=[.ref b])
  (t:=Gz (G9 X.K) (Cr (yt 1) (yt 0)) (tC (.int 0))) L.sc hr.in1 If.env0.in1 Cp zb ?fo ?co rZ CV (hb _) (.cons rfl .nil) rfl rfl ?Gq ?inj ?cz ?cells ?ht ?hq) fun rr s' J0=>?_)
 case fo=>
  have z:upd H d (.frz o (.dT aB)) f=H f:=ag OG
  exact(If.hok f _ (z.trans hf)).1
 case co=>
  have z:upd H d (.frz o (.dT aB)) c'=some (.frz oc bK):=by rw [ag LA];exact gD
  exact(If.hok c' _ z).1
 case Gq=>intro y' Eu;exact⟨c,by rw [List.mem_singleton.mp Eu];simp⟩
 case inj=>intro x y' c1 e1 e2;rw [(Jf x c1 e1).1,(Jf y' c1 e2).1]
 case cz=>intro x c1 e;obtain⟨rfl,rfl⟩:=Jf x c1 e;exact⟨ocell,_,zc,g2⟩
 case cells=>
  intro i y' c1 e1 e2 v e3;obtain⟨rfl,rfl⟩:=Jf y' c1 e2
  cases i with
  |zero=>cases e3;exact⟨.ref d,rfl,ocell,g1,g2⟩
  |succ i=>cases e3
 case ht=>
  refine CO zt (Cj ?_ (eQ (i:=1) rfl (.inr (.inr (L.sc.fre y (by simp)))) L.d3 L.d4) (eQ (i:=0) rfl (.inl (L.sc.par p (by simp))) L.d1 L.d2) fun _ _=>rfl) rC fun _ _=>rfl
  have:=hr.un
  show X.A.units+1+3+1<cLine
  omega
 case hq=>
  refine⟨_,rfl,_,rfl,d,.ref q,rfl,?_,?_⟩
  ·exact .inr ⟨aB,k,b,.inr ⟨o,av⟩,rfl,O4,hv.symm⟩
  ·exact⟨q,.int n::r,0,.int n,rfl,rfl,Nu,by simp [pL,C3],fun _=>⟨rfl,rfl⟩⟩
 ·cases rr with
  |error e=>
   obtain⟨a,C,t,vs,H',B,e1,F⟩:=J0
   exact(F.ends).elim
  |ok fl=>
   cases fl with
   |ret u=>
    obtain⟨v,H',os,bare,un,hok,rv,rfl,rfl⟩:=J0
    obtain⟨t,rfl⟩:=rv
    obtain⟨u1,k1,at1⟩:=wd.back un (Cp.hok If.hok) hok
    obtain⟨hh,g,dr,tk,os'⟩:=s'
    obtain rfl:os'=s.os:=os
    exact⟨⟨t,rfl⟩,I.call (h':=hh) (g':=g) (d':=dr) (t':=tk) (ch:=[]) u1 k1 bare (fun b z=>absurd z (by simp)),at1⟩
   |_=>exact J0.elim
end
end L2
namespace L2
open PySem PySem.Spec PyProof.Rows
structure KM(X:Cx)(σ:St)(H:Hp)(kk:Nat)(d f:Addr)(aB:List (List Key×V))(cf:Nat→Int):Prop where
 room:di (kk+1) X.A
 dt:H d=some (.dT aB)
 lam:∃(p y:Str) (params:Arguments) (body:Expr) (scope:Scope) (qual:Str) (c c':Addr) (oc:Obj) (cU:Array Value) (ct:Tok) (pm eW:Value) (iy:Nat),rD p y params body scope∧X.env.cells.lookup y=some c∧X.s₀.heap.objs.size≤c∧H f=some (.frz (PySem.W.kla_obj "<lambda>" qual params body scope [(y,c)] pm c' eW) bK)∧
  H c'=some (.frz oc bK)∧oc.data=.fields cU∧cU[1]?=some (.str qual ct)∧(∀u,bindArgs (PySem.W.kla_fn "<lambda>" qual params body scope [(y,c)] pm (.ref c') eW) ⟨[u],[]⟩=pure ([p].zip [u]))∧
  X.N[iy]?=some y∧σ[iy]?=some (some (V.ref d))∧X.env.scope.names.lookup y=some .cell
 cost:∀(i:Nat) k v,aB[i]?=some (k,v)→∃q r,v=V.ref q∧eJ X.K H q (.int (cf i)::r)
theorem Aa{aB:List (List Key×V)}:∀{i:Nat} {k:List Key} {v:V},(aB.map (·.1)).Nodup→aB[i]?=some (k,v)→gq aB k=some v:=by
 induction aB with
 |nil=>intro i k v _ h;simp at h
 |cons x r ih=>
  intro i k v nd h;rw [List.map_cons,List.nodup_cons] at nd;cases i with
  |zero=>simp at h;subst h;exact fL rfl
  |succ i=>
   simp at h;rw [fk fun e=>nd.1 (e▸List.mem_map.mpr ⟨(k,v),List.mem_of_getElem? h,rfl⟩)]
   exact ih nd.2 h
section
variable{X:Cx}{pins:List (Addr×Obj)}{σ:St}{H:Hp}{s:Shared}{d f it S:Addr}{o:Obj}{es:Array DictEntry}{ep:Nat}{aB:List (List Key×V)}{kk:Nat}{cf:Nat→Int}{R:Result→Shared→Prop}
theorem uh(I:Inv X pins σ H s)(e:H d=some (.dT aB)):(d==sysModules)=false∧(aB.map (·.1)).Nodup∧∃o es ep,s.heap.get? d=some o∧o.ExactDict∧o.data=.dict es ep∧es.size=aB.length∧∀(i:Nat) (h:i<es.size),∃b k v,es[i].key=.ref b∧aB[i]?=some (k,v)∧H b=some (.tup (k.map kV)):=by
 obtain⟨o,J⟩:=I.freeze e
 obtain⟨lo,h0,hx,es,ep,h3,hl,hk⟩:=fB J av
 obtain⟨z,_,xs,rel,_,_,_,_,_,_,_,h5⟩:=(show bV X.prog X.w H s.heap d (.dT aB) from I.hok d _ e)
 refine⟨lo,?_,o,es,ep,h0,hx,h3,hl,fun i hi=>?_⟩
 ·have keys:∀{l:List (List Key×V)} {m:List (List Key×Addr×Value)},KT H l m→l.map (·.1)=m.map (·.1):=by
   intro l m r
   induction r with
   |nil=>rfl
   |cons h t ih=>rw [List.map_cons,List.map_cons,h.1,ih]
  rw [keys (KT.keeps (H':=H) rel fun _ _ z=>z)];exact h5
 ·obtain⟨b,k,v,e1,e2,e3⟩:=hk i hi
  refine⟨b,k,v,e1,e2,?_⟩
  by_cases hb:b=d
  ·rw [hb,av] at e3;cases e3
  ·rw [ag hb] at e3;exact e3
theorem eo.pin{b:Addr}{ob:Obj}(h:eo X pins H b)(e:s.heap.get? b=some ob)(n:∀v,ob.data≠.cell v):s.heap.get? b=some ob∧H b=none∧b≠X.env.locals∧b∉X.fs∧∀v,ob.data≠.cell v:=⟨e,h.1,h.2.1,h.2.2.1,n⟩
theorem xA(M:KM X σ H kk d f aB cf)(I:Inv X pins σ H s)(fi:eo X pins H it)(fS:eo X pins H S)(ho:s.heap.get? d=some o){oi oS:Obj}(hi:s.heap.get? it=some oi)(ci:∀v,oi.data≠.cell v)(hS:s.heap.get? S=some oS)(cS:∀v,oS.data≠.cell v)
 (nd:(aB.map (·.1)).Nodup) {i:Nat} {k:List Key} {v:V} {b:Addr} (hk:aB[i]?=some (k,v)) (hb:H b=some (.tup (k.map kV))) {E:Value→Shared→Prop} {Q:Value→Shared→Prop}
 (h:∀t s',Inv X pins σ H s'→s'.heap.get? d=some o→s'.heap.get? it=some oi→s'.heap.get? S=some oS→Q (.int (cf i) t) s'):wpAny (model X.prog X.w) X.A.in1 (call (.ref f) [.ref b]) Q E s:=by
 obtain⟨p,y,params,body,scope,qual,c,c',oc,cU,ct,pm,eW,iy,L,l1,l2,l3,l4,l5,l6,l7,l8,l9,l10⟩:=M.lam
 obtain⟨q,r,rfl,hq⟩:=M.cost i k v hk
 have I1:Inv X ((it,oi)::(S,oS)::pins) σ H s:=by
  refine I.pins_of fun p hp=>?_
  rcases List.mem_cons.mp hp with rfl|hp
  ·exact fi.pin hi ci
  ·rcases List.mem_cons.mp hp with rfl|hp
   ·exact fS.pin hS cS
   ·exact I.pin p (List.mem_append_right _ hp)
 have cell:s.heap.IsCell c (some (.ref d)):=by
  obtain⟨m,_,hloc⟩:=I.loc
  obtain⟨u,ru,lk⟩:=hloc iy y (.ref d) l8 l9 (.inr (.inl l10))
  cases(show u=Value.ref d from ru);rcases lk with⟨z,_⟩|⟨_,c2,hc2,z⟩
  ·have z2:X.env.scope.names.lookup y=some .local:=z
   rw [l10] at z2;cases z2
  ·rw [l1] at hc2;cases hc2;exact z
 refine wpAny_mono (wU (kk:=kk) rfl L M.room I1 M.dt ho l1 l2 cell l3 l4 l5 l6 l7 hb (Aa nd hk) hq) (fun u s' hu=>?_) fun _ _ z=>z
 obtain⟨⟨t,rfl⟩,J,hd⟩:=hu
 refine h t s' (J.pins_of fun p hp=>J.pin p (List.mem_append_right _ (.tail _ (.tail _ hp)))) hd (J.pin (it,oi) (List.mem_append_right _ (.head _))).1 (J.pin (S,oS) (List.mem_append_right _ (.tail _ (.head _)))).1
theorem sx{h:Heap}{c:Nat}{xs ys:Array Value}(e:h.get? S=some (seqObj "list" xs c)):∃c',(h.update S (Obj.mapSeq fun _=>ys)).get? S=some (seqObj "list" ys c'):=⟨_,get?_update_seq e fun _=>ys⟩
theorem kS{xs:Array Value}{c:Nat}:∀v,(seqObj "list" xs c).data≠.cell v:=fun v z=>nomatch z
theorem xi(M:KM X σ H kk d f aB cf)(hh:X.A.handled=none)(hd:o.data=.dict es ep)(hl:es.size=aB.length)(wo:∀(i:Nat) (h:i<es.size),∃b k v,es[i].key=.ref b∧aB[i]?=some (k,v)∧H b=some (.tup (k.map kV)))(nd:(aB.map (·.1)).Nodup)
 (fi:eo X pins H it) (fS:eo X pins H S) (nS:S≠it) (hR:∀(i:Nat) (h:i<es.size) s',(∀j,j<es.size→cf i≤cf j∧(j<i→cf i<cf j))→Inv X pins σ H s'→R (.ok (.ret es[i].key)) s'):
 ∀(r j i:Nat) (s:Shared) (t:Tok) (c:Nat) (hi:i<es.size),es.size-(j+1)=r→j+1≤es.size→Inv X pins σ H s→s.heap.get? d=some o→s.heap.IsKeyIter it d (j+1) es.size ep→s.heap.get? S=some (seqObj "list" #[es[i].key,.int (cf i) t] c)→i≤j→(∀j',j'≤j→cf i≤cf j'∧(j'<i→cf i<cf j'))→
  codeAny (model X.prog X.w) X.A (.builtin "min.loop" ⟨[.ref it,.ref f,.ref S],[]⟩) R s:=by
 have name:(toString "min"++toString ".loop":String)="min.loop":=by decide
 have Kb:S≠d:=fun z=>by have:=fS.1;rw [z,M.dt] at this;cases this
 have Kv:it≠d:=fun z=>by have:=fi.1;rw [z,M.dt] at this;cases this
 intro r
 induction r with
 |zero=>
  intro j i s t c hi hr hj I ho st hS LP best;refine codeAny_builtin PySem.F.entry_min_loop ?_;rw [Around.under_plainId PySem.F.plain_min_loop _];show wpAny _ X.A.in1 (seqItems? (.ref S)>>=fun z=>_) _ _ _
  refine wpAny_bind (wpAny_seqItems hS rfl ?_);show wpAny _ X.A.in1 (tryCatch (pyNext (.ref it)) _>>=fun z=>_) _ _ _
  refine wpAny_bind (wpAny_tryCatch (qU hh st ho hd (by omega) fun h' eb=>?_))
  have Ab:=eb S _ nS hS
  have I1:=I.turned (h':=h') (t':=s.toks) (fun b o hb e=>eb b o hb e) fi.1 fi.2.1 fi.2.2.2.1 fi.2.2.2.2.1 fi.2.2.2.2.2
  show wpAny _ X.A.in1 (updateSeq S (fun _=>#[])>>=fun z=>_) _ _ _
  refine wpAny_bind (wpAny_updateSeq Ab rfl (wpAny_bind (wpAny_letGo (wpAny_pure ?_))));have s1:=Heap.SameBut.update h' S (Obj.mapSeq fun _=>(#[]:Array Value))
  exact hR i hi _ (fun j' KC=>best j' (by omega)) (I1.turned (t':=s.toks) (fun b o hb e=>(s1.2 b hb).trans e) fS.1 fS.2.1 fS.2.2.2.1 fS.2.2.2.2.1 fS.2.2.2.2.2)
 |succ r ih=>
  intro j i s t c hi hr hj I ho st hS LP best;have cq:j+1<es.size:=by omega
  refine codeAny_builtin PySem.F.entry_min_loop ?_;rw [Around.under_plainId PySem.F.plain_min_loop _];show wpAny _ X.A.in1 (seqItems? (.ref S)>>=fun z=>_) _ _ _
  refine wpAny_bind (wpAny_seqItems hS rfl ?_);show wpAny _ X.A.in1 (tryCatch (pyNext (.ref it)) _>>=fun z=>_) _ _ _
  refine wpAny_bind (wpAny_tryCatch (i9 st ho hd cq fun h' gW sb=>?_));have Ab:=(sb.2 S nS).trans hS
  have eN:=(sb.2 d (Ne.symm Kv)).trans ho
  have I1:=I.turned (h':=h') (t':=s.toks) (fun b o hb e=>(sb.2 b hb).trans e) fi.1 fi.2.1 fi.2.2.2.1 fi.2.2.2.2.1 fi.2.2.2.2.2
  obtain⟨oi,gi,gc,gd⟩:=id gW
  obtain⟨b,k,v,e1,e2,e3⟩:=wo (j+1) cq
  rw [e1];show wpAny _ X.A.in1 (tryCatch (holding [Value.ref b] (call (.ref f) [Value.ref b])) _>>=fun z=>_) _ _ _
  refine wpAny_bind (wpAny_tryCatch (wpAny_holding (xA M I1 fi fS eN gi (fun v z=>by rw [gd] at z;cases z) Ab kS nd e2 e3 fun t2 s2 I2 zM Hc Gw=>?_)))
  have II:s2.heap.IsKeyIter it d (j+1+1) es.size ep:=⟨oi,Hc,gc,gd⟩
  show wpAny _ X.A.in1 (tryCatch (holding [Value.ref b,.int (cf (j+1)) t2] (richCompare .Lt (.int (cf (j+1)) t2) (.int (cf i) t)>>=fun z=>_)) _>>=fun z=>_) _ _ _
  refine wpAny_bind (wpAny_tryCatch (wpAny_holding (wpAny_bind (CmpOf.ints_lt (prog:=X.prog) (w:=X.w) (A:=X.A.in1) (P:=fun i v=>∃t,v=.int (cf i) t) cf (fun i v h=>h) (j+1) i _ _ _ _ _ ⟨t2,rfl⟩ ⟨t,rfl⟩ ?_))))
  refine wpAny_bind (wpAny_holding (wpAny_truthy_bool (wpAny_bind (wpAny_letGo (wpAny_pure ?_)))))
  by_cases lB:cf (j+1)<cf i
  ·obtain⟨c2,hc2⟩:=sx (ys:=#[Value.ref b,.int (cf (j+1)) t2]) Gw
   have s1:=Heap.SameBut.update s2.heap S (Obj.mapSeq fun _=>#[Value.ref b,.int (cf (j+1)) t2])
   simp only [lB,decide_true,if_true];refine wpAny_bind (wpAny_updateSeq Gw rfl (wpAny_bind (wpAny_letGo ?_)));rw [name];rw [←e1] at hc2 s1⊢;refine wpAny_pure ⟨plainId_quiet PySem.F.plain_min_loop _,ih (j+1) (j+1) _ t2 c2 cq (by omega) cq (I2.turned (t':=s2.toks) (fun b o hb e=>(s1.2 b hb).trans e) fS.1 fS.2.1 fS.2.2.2.1 fS.2.2.2.2.1 fS.2.2.2.2.2) ?_ ?_ ?_ (Nat.le_refl _) fun j' KC=>?_⟩
   ·exact(s1.2 d (Ne.symm Kb)).trans zM
   ·exact⟨oi,(s1.2 it (Ne.symm nS)).trans Hc,gc,gd⟩
   ·exact hc2
   ·by_cases e:j'=j+1
    ·subst e;exact⟨by omega,fun _=>by omega⟩
    ·have:=best j' (by omega)
     exact⟨by omega,fun _=>by omega⟩
  ·simp only [lB,decide_false,Bool.false_eq_true,if_false];refine wpAny_bind (wpAny_letGo ?_);rw [name];refine wpAny_pure ⟨plainId_quiet PySem.F.plain_min_loop _,ih (j+1) i _ t c hi (by omega) cq I2 zM II Gw (by omega) fun j' KC=>?_⟩
   by_cases e:j'=j+1
   ·subst e;exact⟨by omega,fun _=>by omega⟩
   ·exact best j' (by omega)
theorem vL(M:KM X σ H kk d f aB cf)(jg:0<aB.length)(I:Inv X pins σ H s){Q:VK}
 (q:∀i k v b,aB[i]?=some (k,v)→H b=some (.tup (k.map kV))→(∀j,j<aB.length→cf i≤cf j∧(j<i→cf i<cf j))→Q (.ref b) H):wpAny (model X.prog X.w) X.A (call (.builtin "min") [.ref d] [(Str.ofString "key",.ref f)]) (EP X pins σ Q) X.xe s:=by
 have name:(toString "min"++toString ".loop":String)="min.loop":=by decide
 have hh:X.A.handled=none:=M.room.hd
 obtain⟨lo,nd,o,es,ep,ho,hx,hd,hl,wo⟩:=uh I M.dt
 have fin:∀(i:Nat) (h:i<es.size) s',(∀j,j<es.size→cf i≤cf j∧(j<i→cf i<cf j))→Inv X pins σ H s'→EP X pins σ Q es[i].key s':=fun i h s' b J=>by
  obtain⟨a,k,v,e1,e2,e3⟩:=wo i h
  rw [e1];exact⟨.ref a,H,J,rfl,q i k v a e2 e3 fun j hj=>b j (by omega)⟩
 refine kmk_tree PySem.F.kind_min PySem.F.plain_min PySem.F.entry_min (kmk_min_key _ _) ?_;show wpAny _ X.A.in1 (Builtin.Builtins.bindParams "min" ["key","default"] 0 ⟨[],[(Str.ofString "key",.ref f)]⟩>>=fun z=>_) _ _ s
 refine wpAny_bind (wpAny_of_eq (show Builtin.Builtins.bindParams "min" ["key","default"] 0 ⟨[],[(Str.ofString "key",.ref f)]⟩=pure [some (.ref f),none] from rfl) (wpAny_bind (wpAny_pure ?_)));refine wpAny_bind (nV lo ho hx hd (wpAny_bind (wpAny_newList ?_ (Nat.zero_le _))));rw [name];generalize hit:s.heap.objs.size=it
 generalize hSS:(s.heap.push {cls:=.type "dict_keyiterator",data:=.fields #[.ref d,.int 0 0,.int es.size 0,.int ep 0]}).objs.size=S
 have eS:S=it+1:=by rw [←hSS,←hit];exact size_push' ..
 have nS:S≠it:=by omega
 have hH:s.heap.objs.size≤S:=by omega
 have fi:eo X pins H it:=by rw [←hit];exact I.fpOk (Nat.le_refl _) (I.hok.fresh (Nat.le_refl _))
 have fS:eo X pins H S:=I.fpOk hH (I.hok.fresh hH)
 have keep:∀b ob,s.heap.get? b=some ob→((s.heap.push {cls:=.type "dict_keyiterator",data:=.fields #[.ref d,.int 0 0,.int es.size 0,.int ep 0]}).push (seqObj "list" #[] 0)).get? b=some ob:=fun b ob e=>Heap.get?_push_of_some _ (Heap.get?_push_of_some _ e)
 have I1:=I.kept (t':=s.toks) keep
 have gI:((s.heap.push {cls:=.type "dict_keyiterator",data:=.fields #[.ref d,.int 0 0,.int es.size 0,.int ep 0]}).push (seqObj "list" #[] 0)).get? it=some {cls:=.type "dict_keyiterator",data:=.fields #[.ref d,.int 0 0,.int es.size 0,.int ep 0]}:=by
  rw [←hit];exact Heap.get?_push_of_some _ (Heap.get?_push_size _ rfl)
 have gS:((s.heap.push {cls:=.type "dict_keyiterator",data:=.fields #[.ref d,.int 0 0,.int es.size 0,.int ep 0]}).push (seqObj "list" #[] 0)).get? S=some (seqObj "list" #[] 0):=by
  rw [←hSS];exact Heap.get?_push_size _ rfl
 have Kb:S≠d:=fun z=>by have:=fS.1;rw [z,M.dt] at this;cases this
 have Kv:it≠d:=fun z=>by have:=fi.1;rw [z,M.dt] at this;cases this
 refine wpAny_pure ⟨plainId_quiet PySem.F.plain_min_loop _,codeAny_builtin PySem.F.entry_min_loop ?_⟩;rw [Around.under_plainId PySem.F.plain_min_loop _];show wpAny _ X.A.in1 (seqItems? (.ref S)>>=fun z=>_) _ _ _
 refine wpAny_bind (wpAny_seqItems gS rfl ?_);show wpAny _ X.A.in1 (tryCatch (pyNext (.ref it)) _>>=fun z=>_) _ _ _
 have h0:0<es.size:=by omega
 refine wpAny_bind (wpAny_tryCatch (i9 (i:=0) ⟨_,gI,rfl,rfl⟩ (keep _ _ ho) hd h0 fun h' gW sb=>?_))
 have Ab:=(sb.2 S nS).trans gS
 have eN:=(sb.2 d (Ne.symm Kv)).trans (keep _ _ ho)
 have I2:=I1.turned (h':=h') (t':=s.toks) (fun b o hb e=>(sb.2 b hb).trans e) fi.1 fi.2.1 fi.2.2.2.1 fi.2.2.2.2.1 fi.2.2.2.2.2
 obtain⟨oi,gi,gc,gd⟩:=id gW
 obtain⟨b,k,v,e1,e2,e3⟩:=wo 0 h0
 rw [e1];show wpAny _ X.A.in1 (tryCatch (holding [Value.ref b] (call (.ref f) [Value.ref b])) _>>=fun z=>_) _ _ _
 refine wpAny_bind (wpAny_tryCatch (wpAny_holding (xA M I2 fi fS eN gi (fun v z=>by rw [gd] at z;cases z) Ab kS nd e2 e3 fun t2 s2 I3 zM Hc Gw=>?_)))
 obtain⟨c2,hc2⟩:=sx (ys:=#[Value.ref b,.int (cf 0) t2]) Gw
 have s1:=Heap.SameBut.update s2.heap S (Obj.mapSeq fun _=>#[Value.ref b,.int (cf 0) t2])
 show wpAny _ X.A.in1 (updateSeq S (fun _=>#[Value.ref b,.int (cf 0) t2])>>=fun z=>_) _ _ _
 refine wpAny_bind (wpAny_updateSeq Gw rfl ?_);rw [name];rw [←e1] at hc2 s1⊢;refine wpAny_pure ⟨plainId_quiet PySem.F.plain_min_loop _,xi M hh hd hl wo nd fi fS nS fin _ 0 0 _ t2 c2 h0 rfl h0 (I3.turned (t':=s2.toks) (fun b o hb e=>(s1.2 b hb).trans e) fS.1 fS.2.1 fS.2.2.2.1 fS.2.2.2.2.1 fS.2.2.2.2.2) ((s1.2 d (Ne.symm Kb)).trans zM) ⟨oi,(s1.2 it (Ne.symm nS)).trans Hc,gc,gd⟩ hc2 (Nat.le_refl _) fun j' KC=>?_⟩
 have e:j'=0:=by omega
 subst e;exact⟨by omega,fun h=>absurd h (Nat.lt_irrefl _)⟩
end
end L2
namespace L2
open PySem PySem.Spec PyProof.Rows PySem.W
noncomputable def m9{α:Type}(dflt:α)(l:List α)(nss:List (List Int)):List α:=if l.length<2 then l else(nh l.length fun i j=>HT.lexLt (nss.getD i []) (nss.getD j [])).map fun i=>l.getD i dflt
section
variable{prog:Program}{w:World}{A:Around}{E:Value→Shared→Prop}{s:Shared}{a:Addr}{vs:List Value}{nss:List (List Int)}
theorem y7{n:Nat}{P:PySem.Fin→Shared→Prop}(ho:s.heap.get? a=some (seqObj "list" vs.toArray n))(h2:vs.length<2)
 (h:∀h' c,(∀b o,b≠a→s.heap.get? b=some o→h'.get? b=some o)→h'.get? a=some (seqObj "list" vs.toArray c)→P (.done (.ret .none)) {s with heap:=h'}):wpAny (model prog w) A (Builtin.«list.sort» ⟨[.ref a],[]⟩) P E s:=by
 have s1:=Heap.SameBut.update s.heap a (Obj.mapSeq fun _=>(#[]:Array Value))
 obtain⟨e1,ho1⟩:=kM (ys:=(#[]:Array Value)) ho
 generalize hH:(((s.heap.update a (Obj.mapSeq fun _=>(#[]:Array Value))).push (seqObj "tuple" vs.toArray 0)).push (seqObj "list" #[] 0))=H1
 have k1:∀b o,b≠a→s.heap.get? b=some o→H1.get? b=some o:=fun b o hb e=>by rw [←hH];exact Heap.get?_push_of_some _ (Heap.get?_push_of_some _ ((s1.2 b hb).trans e))
 have a1:H1.get? a=some (seqObj "list" #[] e1):=by rw [←hH];exact Heap.get?_push_of_some _ (Heap.get?_push_of_some _ ho1)
 rw [list_sort_plain];refine wpAny_bind (listItems_at ho rfl (wpAny_bind (listUpdate_at ho rfl ?_ (by rw [List.size_toArray,sizeLine_eq];omega) (Nat.zero_le _))));refine wpAny_bind (seqEpoch_at ho1 rfl (wpAny_bind (wpAny_newTuple ?_ (by show vs.length≤_;rw [sizeLine_eq];omega))));refine wpAny_bind (wpAny_newList ?_ (Nat.zero_le _));refine wpAny_holding ?_;show wpAny (model prog w) A _ P E {s with heap:=((s.heap.update a (Obj.mapSeq fun _=>(#[]:Array Value))).push (seqObj "tuple" vs.toArray 0)).push (seqObj "list" #[] 0)}
 rw [hH];dsimp only;have CS:vs.toArray.size<2:=by rw [List.size_toArray];omega
 rw [if_pos CS,if_pos CS];refine wpAny_bind (wpAny_pure (wpAny_bind ?_));show wpAny (model prog w) A (pure ((),SortSt.mk' general' (vs.toArray.zip vs.toArray) #[] 7 none)) _ E _;refine wpAny_pure ?_;dsimp only;have DO:(arrOf (SortSt.mk' general' (vs.toArray.zip vs.toArray) #[] 7 none)).map (·.2)=vs.toArray:=by
  show(vs.toArray.zip vs.toArray).map (·.2)=vs.toArray
  apply Array.toList_inj.mp
  simp only [Array.toList_map,Array.toList_zip];exact List.map_snd_zip (Nat.le_refl _)
 rw [DO];have s2:=Heap.SameBut.update H1 a (Obj.mapSeq fun _=>vs.toArray)
 obtain⟨c2,hc2⟩:=kM (ys:=vs.toArray) a1
 refine wpAny_bind (seqEpoch_at a1 rfl (wpAny_bind (listUpdate_at a1 rfl ?_ (Nat.zero_le _) (by rw [List.size_toArray,sizeLine_eq];omega))));simp only [bne_self_eq_false,Bool.false_eq_true,if_false];exact wpAny_pure (h _ c2 (fun b o hb e=>(s2.2 b hb).trans (k1 b o hb e)) hc2)
theorem wJ{n:Nat}{P:PySem.Fin→Shared→Prop}(ho:s.heap.get? a=some (seqObj "list" vs.toArray n))(CP:vs.length<64)(t:fF s.heap vs nss)
 (h:∀h' c,(∀b o,b≠a→s.heap.get? b=some o→h'.get? b=some o)→h'.get? a=some (seqObj "list" (m9 Value.none vs nss).toArray c)→P (.done (.ret .none)) {s with heap:=h'}):wpAny (model prog w) A (Builtin.«list.sort» ⟨[.ref a],[]⟩) P E s:=by
 by_cases h2:vs.length<2
 ·exact y7 ho h2 fun h' c k e=>h h' c k (by unfold m9;rw [if_pos h2];exact e)
 ·exact v7 ho (by omega) CP t fun h' c k e=>h h' c k (by unfold m9;rw [if_neg h2];exact e)
theorem zC{d:Addr}{o:Obj}{es:Array DictEntry}{ep:Nat}(lo:(d==sysModules)=false)(hx:o.ExactDict)(hd:o.data=.dict es ep):KdlSrc prog w "dict" d d es.size (fun i v=>∃h:i<es.size,v=es[i].key) (fun h=>h.get? d=some o) where
 type:=fun s e=>⟨o,e,hx.1⟩
 there:=fun h e=>⟨Heap.lt_size e,Heap.lt_size e⟩
 keep:=fun h h' e k=>k d (.inl rfl) o e
 notList:=by decide
 notTuple:=by decide
 hint:=fun A E s Q e q=>kdl_hint_dict ⟨o,e,hx.1⟩ q
 iter:=fun A s hh e=>⟨_,fun i h=>h.IsKeyIter s.heap.objs.size d i es.size ep∧h.get? d=some o,(fun E Q q=>nV lo e hx hd q),{
  sub:=fun b hb=>by simp at hb;simp [hb]
  frame:=fun _ _ _ st hk=>⟨st.1.at fun o e=>hk _ (by simp) o e,hk d (by simp) o st.2⟩
  item:=fun i s' Q E hi st hQ=>i9 st.1 st.2 hd hi fun h' gW sb=>hQ _ h' s'.toks ⟨hi,rfl⟩ ⟨gW,(sb.2 d (Nat.ne_of_lt (Heap.lt_size e))).trans st.2⟩ fun b o hb z=>(sb.2 b (fun y=>hb (by simp [y]))).trans z
  done:=fun s' Q E st hQ=>qU hh st.1 st.2 hd (Nat.le_refl _) fun h' eb=>hQ h' s'.toks fun b o hb z=>eb b o (fun y=>hb (by simp [y])) z
  self:=fun _ _ _ _ st hQ=>wpAny_pyIter_keyiter st.1 hQ},⟨⟨_,Heap.get?_push_size _ rfl,rfl,rfl⟩,Heap.get?_push_of_some _ e⟩⟩
theorem o9{Q:List Value→Shared→Prop}{T:String}{r d:Addr}{n:Nat}{P:Nat→Value→Prop}{OK:Heap→Prop}(K:KdlSrc prog w T r d n P OK)(hh:A.handled=none)(hok:OK s.heap)(hn:n≤sizeLine)
 (hQ:∀h' tk (acc:Array Value),(∀b o,s.heap.get? b=some o→h'.get? b=some o)→ItemsOf P acc n→Q acc.toList {s with heap:=h',toks:=tk}):wpAny (model prog w) A (collect (.ref r)) Q E s:=by
 have hS:(s.heap.push (seqObj "list" #[] 0)).get? s.heap.objs.size=some {cls:=.type "list",data:=.seq #[] 0}:=Heap.get?_push_size _ rfl
 have cq:=K.there _ hok
 have main:codeAny (model prog w) A (.builtin "proto.collect" ⟨[.ref r],[]⟩) (fun res s'=>∃h' tk nA c',res=.ok (.ret (.ref s.heap.objs.size))∧s'={s with heap:=h',toks:=tk}∧(∀b o,s.heap.get? b=some o→h'.get? b=some o)∧h'.get? s.heap.objs.size=some {cls:=.type "list",dict:=none,data:=.seq nA c',slots:=#[]}∧ItemsOf P nA n) s:=by
  refine codeAny_builtin F.entry_proto_collect ?_;rw [Around.under_plainId F.plain_proto_collect _];show wpAny _ A.in1 (newList []>>=fun l=>again (.builtin "list.__iadd__" ⟨[l,.ref r],[]⟩)) _ _ s
  refine wpAny_bind (wpAny_newList (wpAny_pure ⟨plainId_quiet F.plain_list_iadd _,codeAny_builtin F.entry_list_iadd ?_⟩) (Nat.zero_le _));rw [Around.under_plainId F.plain_list_iadd _];exact kdl_extend (R:=fun res s'=>∃h' tk nA c',res=.ok (.ret (.ref s.heap.objs.size))∧s'={s with heap:=h',toks:=tk}∧(∀b o,s.heap.get? b=some o→h'.get? b=some o)∧h'.get? s.heap.objs.size=some {cls:=.type "list",dict:=none,data:=.seq nA c',slots:=#[]}∧ItemsOf P nA n)
   (s:={s with heap:=s.heap.push (seqObj "list" #[] 0)}) (A:=A) K hh (K.keep _ _ hok fun b _ o e=>Heap.get?_push_of_some _ e) _ (Nat.ne_of_gt cq.1) (Nat.ne_of_gt cq.2) (.ref s.heap.objs.size) 0 hS (fun h' tk nA c' hk Ab DC=>⟨h',tk,nA,c',rfl,rfl,fun b o e=>hk b o (Nat.ne_of_lt (Heap.lt_size e)) (Heap.get?_push_of_some _ e),Ab,DC⟩) hn
 unfold collect;refine wpAny_bind (wpAny_runValue (codeAny_mono main fun res s' hr=>?_));obtain⟨h',tk,nA,c',rfl,rfl,k1,k2,k3⟩:=hr
 show wpAny _ A (load s.heap.objs.size>>=fun z=>_) _ _ _
 exact wpAny_bind (wpAny_load k2 (wpAny_pure (hQ h' tk nA k1 k3)))
end
abbrev wY(K:PySem.W.Frag)(H:Hp)(vs:List V)(nss:List (List Int)):Prop:=Paired (fun v ns=>∃b,v=V.ref b∧eJ K H b (ns.map V.int)∧ns≠[]) vs nss
section
variable{X:Cx}{pins:List (Addr×Obj)}{σ:St}{H:Hp}{s:Shared}{vs:List V}{us:List Value}{nss:List (List Int)}{A:Around}{E:Value→Shared→Prop}{Q:VK}
theorem An(I:Inv X pins σ H s):∀{vs:List V} {us:List Value} {nss:List (List Int)},Vals vs us→wY X.K H vs nss→fF s.heap us nss:=by
 intro vs us nss r t
 induction t generalizing us with
 |nil=>cases r;exact .nil
 |cons h t ih=>
  obtain⟨b,rfl,hq,jg⟩:=h
  cases r with
  |cons r1 r2=>
   cases(show _=Value.ref b from r1);obtain⟨aD,rv,⟨o,g1,g2,n,g3⟩,_⟩:=I.tuple hq
   exact .cons ⟨b,o,aD.toArray,n,rfl,g1,g2,g3,by simpa using rv,jg⟩ (ih r2)
theorem yT(r:Vals vs us):Vals (m9 V.non vs nss) (m9 Value.none us nss):=by
 have hl:=r.length
 unfold m9;rw [hl];split
 ·exact r
 ·have go:∀l:List Nat,Vals (l.map fun i=>vs.getD i V.non) (l.map fun i=>us.getD i Value.none):=by
   intro l
   induction l with
   |nil=>exact .nil
   |cons i l ih=>
    refine .cons ?_ ih;dsimp only
    by_cases hi:i<vs.length
    ·obtain⟨u,hu,ru⟩:=r.get (zzg hi)
     have e1:vs.getD i V.non=vs[i]:=by simp [hi]
     have e2:us.getD i Value.none=u:=by simp [hu]
     rw [e1,e2];exact ru
    ·have e1:vs.getD i V.non=.non:=by simp [Nat.le_of_not_lt hi]
     have e2:us.getD i Value.none=.none:=by simp [Nat.le_of_not_lt (hl▸hi)]
     rw [e1,e2];exact rfl
  exact go _
theorem AK{α:Type}{d:α}{l:List α}:(m9 d l nss).length=l.length:=by
 unfold m9;split
 ·rfl
 ·rename_i h;rw [zzl,(iO (by omega) _).length_eq,List.length_range]
theorem qJ(I:Inv X pins σ H s)(r:Vals vs us)(t:wY X.K H vs nss)(CP:vs.length<64)(q:∀p,H p=none→Q (.ref p) (upd H p (.lst (m9 V.non vs nss)))):
 wpAny (model X.prog X.w) A (newList us>>=fun l=>holding [l] (call (.builtin "list.sort") [l] [])>>=fun _=>ret l) (fun fin s'=>∃v,fin=.done (.ret v)∧EP X pins σ Q v s') E s:=by
 have hl:=r.length
 refine wpAny_bind (wpAny_newList ?_ (by rw [sizeLine_eq];omega));have Jt:(s.heap.push (seqObj "list" us.toArray 0)).get? s.heap.objs.size=some (seqObj "list" us.toArray 0):=Heap.get?_push_size _ rfl
 have kp:∀b o,s.heap.get? b=some o→(s.heap.push (seqObj "list" us.toArray 0)).get? b=some o:=fun b o e=>Heap.get?_push_of_some _ e
 refine wpAny_bind (wpAny_holding (wpAny_call_entry slot_list_sort ⟨_,Jt,rfl⟩ entry_list_sort ?_ (args_list_sort _)));refine wJ (s:={s with heap:=s.heap.push (seqObj "list" us.toArray 0)}) Jt (by omega) ((An I r t).keep fun b o e _=>kp b o e) fun h' c k e=>⟨_,rfl,wpAny_pure ⟨_,rfl,.ref s.heap.objs.size,upd H s.heap.objs.size (.lst (m9 V.non vs nss)),?_,rfl,q _ (I.hok.fresh (Nat.le_refl _))⟩⟩
 exact I.laid (a:=s.heap.objs.size) (t':=s.toks) (fun b o z=>k b o (Nat.ne_of_lt (Heap.lt_size z)) (kp b o z)) (Nat.le_refl _) ⟨by rw [AK,sizeLine_eq];omega,_,c,yT r,e⟩
theorem Ao{d:Addr}{aB:List (List Key×V)}(I:Inv X pins σ H s)(e:Rd H d (.dT aB)):(d==sysModules)=false∧∃o es ep,s.heap.get? d=some o∧o.ExactDict∧o.data=.dict es ep∧es.size=aB.length∧∀(i:Nat) (h:i<es.size),∃b k v,es[i].key=.ref b∧aB[i]?=some (k,v)∧H b=some (.tup (k.map kV)):=by
 rcases e with e|⟨o,e⟩
 ·obtain⟨h1,_,h2⟩:=uh I e
  exact⟨h1,h2⟩
 ·obtain⟨h1,h2,h3,h4⟩:=fB I e
  exact⟨h1,o,let⟨es,ep,r⟩:=h4;⟨es,ep,h2,h3,r⟩⟩
theorem n9(hc:X.calm=true):cT X (.builtin "sorted") (fun xs H Q=>∃a aB nss,xs=[V.ref a]∧Rd H a (.dT aB)∧aB.map (·.1)=nss.map (·.map .inl)∧(∀ns∈nss,ns≠[])∧aB.length<64∧
 ∀p vs,H p=none→Paired (fun v ns=>∃b,v=V.ref b∧H b=some (.tup (ns.map V.int))) vs nss→Q (.ref p) (upd H p (.lst (m9 V.non vs nss)))):=by
 intro pins s σ H xs us Q I r h;obtain⟨a,aB,nss,rfl,hl,hk,jg,CP,q⟩:=h
 obtain⟨u,rfl,ru⟩:=vals1 r
 cases ru;obtain⟨lo,o,es,ep,h0,hx,h3,vm,wo⟩:=Ao I hl
 refine Calls.call_function_entry kind_sorted plain_sorted entry_sorted (args_sorted1 _) ?_;unfold Builtin.«sorted»;refine wpAny_bind (m:=checkCount "sorted" 1 1 _) (wpAny_pure (wpAny_bind (o9 (zC lo hx h3) (show X.A.in1.handled=none from I.ok.hd hc) h0 (by rw [sizeLine_eq];omega) fun h' tk acc kp it=>?_)))
 have I1:=I.kept (t':=tk) (h':=h') kp
 have all:∃vs:List V,Vals vs acc.toList∧Paired (fun v ns=>∃b,v=V.ref b∧H b=some (.tup (ns.map V.int))) vs nss:=by
  have hn:nss.length=aB.length:=by have:=congrArg List.length hk;simpa using this.symm
  have hs:acc.toList.length=nss.length:=by rw [Array.length_toList,it.1];omega
  have ev:∀(i:Nat) v ns,acc.toList[i]?=some v→nss[i]?=some ns→∃b,v=.ref b∧H b=some (.tup (ns.map V.int)):=fun i v ns e1 e2=>by
   obtain⟨hi,ev⟩:=it.2 i v (by rw [←Array.getElem?_toList];exact e1)
   obtain⟨b,k,x,g1,g2,g3⟩:=wo i hi
   refine⟨b,ev.trans g1,?_⟩;have EB:k=ns.map .inl:=by
    have:=congrArg (fun l=>l[i]?) hk
    simp only [List.getElem?_map,g2,e2,Option.map_some] at this;exact Option.some.inj this
   rw [g3,EB,List.map_map]
   rfl
  clear it wo hk jg q I1
  generalize acc.toList=us at hs ev
  clear CP hn
  induction nss generalizing us with
  |nil=>cases us with
   |nil=>exact⟨[],.nil,.nil⟩
   |cons u us=>simp at hs
  |cons ns nss ih=>
   cases us with
   |nil=>simp at hs
   |cons u us=>
    obtain⟨vs,h1,h2⟩:=ih us (by simpa using hs) fun i v ns e1 e2=>ev (i+1) v ns (by simpa using e1) (by simpa using e2)
    obtain⟨b,rfl,hb⟩:=ev 0 u ns rfl rfl
    exact⟨.ref b::vs,.cons rfl h1,.cons ⟨b,rfl,hb⟩ h2⟩
 obtain⟨vs,rv,pv⟩:=all
 have hlen:vs.length<64:=by have:=Paired.length pv;have h9:=congrArg List.length hk;simp at h9;omega
 refine qJ I1 rv ?_ hlen fun p hp=>q p vs hp pv
 clear hlen rv hk CP q
 induction pv with
 |nil=>exact .nil
 |cons h t ih=>
  obtain⟨b,rfl,hb⟩:=h
  exact .cons ⟨b,rfl,.inl (.inl hb),jg _ (.head _)⟩ (ih fun ns hm=>jg ns (.tail _ hm))
end
end L2
namespace Ci
open PySem L2
inductive PV where
 |non|bl (b:Bool)|int (i:Int)|str (z:Str)
 |tup (xs:List PV)|lst (xs:List PV)
 |exc (c:Str)
 |dct (ks:List (List Int)) (vs:List PV)
 deriving Inhabited
structure Wd where
 K:PySem.W.Frag
 mg:Str→Option Value
 xs:List Str
 ts:List (Addr×Str):=[]
def LsR(K:PySem.W.Frag)(H:Hp)(a:Addr)(vs:List V):Prop:=
 Rd H a (.lst vs)∨∃(aD:Array Value) (n:Nat),K.lookup a=some {cls:=.type "list",data:=.seq aD n}∧aD.size≤sizeLine∧Vals vs aD.toList
def Gv(K:PySem.W.Frag)(G:Hp)(a:Addr)(vs:List V):Prop:=G a=some (.tup vs)∨eJ K G a vs∧∃z,V.str z∈vs
theorem Gv.sq{K:PySem.W.Frag}{G:Hp}{a:Addr}{vs:List V}:Gv K G a vs→eJ K G a vs
 |.inl h=>.inl (.inl h)
 |.inr h=>h.1
def kz(ks:List (List Int))(us:List V):List (List Key×V):=(ks.map fun k=>k.map Sum.inl).zip us
mutual
def Rep(W:Wd)(G:Hp):PV→V→Prop
 |.non,v=>v=.non
 |.bl b,v=>v=.bl b
 |.int i,v=>v=.int i
 |.str z,v=>v=.str z
 |.tup xs,v=>∃a vs,v=.ref a∧Gv W.K G a vs∧ak W G xs vs
 |.lst xs,v=>∃a vs,v=.ref a∧LsR W.K G a vs∧ak W G xs vs
 |.exc c,v=>∃a C,v=.ref a∧c∈W.xs∧W.mg c=some (.ref C)∧G a=some (IG a C)
 |.dct ks vs,v=>∃a o us,v=.ref a∧ks.length=us.length∧G a=some (.frz o (.dT (kz ks us)))∧ak W G vs us
def ak(W:Wd)(G:Hp):List PV→List V→Prop
 |[],vs=>vs=[]
 |p::ps,vs=>∃v r,vs=v::r∧Rep W G p v∧ak W G ps r
end
theorem aF.tup{K:PySem.W.Frag}{H H':Hp}{a:Addr}{xs:List V}(e:aF H H')(h:eJ K H a xs):eJ K H' a xs:=by
 rcases h with(h|⟨o,h⟩)|h
 ·exact .inl (.inl (e _ _ h))
 ·exact .inl (.inr ⟨o,e _ _ h⟩)
 ·exact .inr h
theorem aF.tp{K:PySem.W.Frag}{H H':Hp}{a:Addr}{xs:List V}(e:aF H H')(h:Gv K H a xs):Gv K H' a xs:=h.elim (fun z=>.inl (e _ _ z)) fun z=>.inr ⟨aF.tup e z.1,z.2⟩
theorem aF.rd{H H':Hp}{a:Addr}{u:HO}(e:aF H H')(h:Rd H a u):Rd H' a u:=by
 rcases h with h|⟨o,h⟩
 ·exact .inl (e _ _ h)
 ·exact .inr ⟨o,e _ _ h⟩
theorem aF.ls{K:PySem.W.Frag}{H H':Hp}{a:Addr}{vs:List V}(e:aF H H')(h:LsR K H a vs):LsR K H' a vs:=h.elim (fun z=>.inl (aF.rd e z)) .inr
section
variable{W:Wd}{G G':Hp}
mutual
theorem Rep.same(s:aF G G'):∀(p:PV) {v:V},Rep W G p v→Rep W G' p v
 |.non,_,h=>by simpa only [Rep] using h
 |.bl b,_,h=>by simpa only [Rep] using h
 |.int i,_,h=>by simpa only [Rep] using h
 |.str z,_,h=>by simpa only [Rep] using h
 |.tup xs,_,h=>by
  simp only [Rep] at h⊢;obtain⟨a,vs,e,q,l⟩:=h
  exact⟨a,vs,e,aF.tp s q,ak.same s xs l⟩
 |.lst xs,_,h=>by
  simp only [Rep] at h⊢;obtain⟨a,vs,e,q,l⟩:=h
  exact⟨a,vs,e,aF.ls s q,ak.same s xs l⟩
 |.exc c,_,h=>by
  simp only [Rep] at h⊢;obtain⟨a,C,e,x,m,q⟩:=h
  exact⟨a,C,e,x,m,s _ _ q⟩
 |.dct ks vs,_,h=>by
  simp only [Rep] at h⊢;obtain⟨a,o,us,e,n,m,l⟩:=h
  exact⟨a,o,us,e,n,s _ _ m,ak.same s vs l⟩
theorem ak.same(s:aF G G'):∀(ps:List PV) {vs:List V},ak W G ps vs→ak W G' ps vs
 |[],_,h=>by simpa only [ak] using h
 |p::ps,_,h=>by
  simp only [ak] at h⊢;obtain⟨v,r,e,h1,h2⟩:=h
  exact⟨v,r,e,Rep.same s p h1,ak.same s ps h2⟩
end
theorem ak.paired:∀{ps:List PV} {vs:List V},ak W G ps vs→Paired (fun v p=>Rep W G p v) vs ps
 |[],_,h=>by simp only [ak] at h;subst h;exact .nil
 |p::ps,_,h=>by
  simp only [ak] at h;obtain⟨v,r,rfl,h1,h2⟩:=h
  exact .cons h1 (ak.paired h2)
theorem ak.length{ps:List PV}{vs:List V}(h:ak W G ps vs):vs.length=ps.length:=kN h.paired
theorem ak.nil:ak W G [] []:=by simp only [ak]
theorem ak.cons{p:PV}{v:V}{ps:List PV}{vs:List V}(h:Rep W G p v)(t:ak W G ps vs):ak W G (p::ps) (v::vs):=by simp only [ak];exact⟨_,_,rfl,h,t⟩
theorem ak.uncons{p:PV}{ps:List PV}{vs:List V}(h:ak W G (p::ps) vs):∃v r,vs=v::r∧Rep W G p v∧ak W G ps r:=by simpa only [ak] using h
theorem ak.append:∀{ps qs:List PV} {vs us:List V},ak W G ps vs→ak W G qs us→ak W G (ps++qs) (vs++us)
 |[],_,_,_,h,k=>by simp only [ak] at h;subst h;exact k
 |p::ps,_,_,_,h,k=>by
  obtain⟨v,r,rfl,h1,h2⟩:=h.uncons
  exact .cons h1 (h2.append k)
theorem ak.get:∀{ps:List PV} {vs:List V} {i:Nat} {v:V},ak W G ps vs→vs[i]?=some v→∃p,ps[i]?=some p∧Rep W G p v:=fun h e=>md h.paired e
theorem ak.getP:∀{ps:List PV} {vs:List V} {i:Nat} {p:PV},ak W G ps vs→ps[i]?=some p→∃v,vs[i]?=some v∧Rep W G p v
 |[],_,_,_,_,e=>by simp at e
 |p::ps,_,0,q,h,e=>by
  obtain⟨v,r,rfl,h1,h2⟩:=h.uncons
  simp at e;subst e;exact⟨v,rfl,h1⟩
 |p::ps,_,i+1,q,h,e=>by
  obtain⟨v,r,rfl,h1,h2⟩:=h.uncons
  obtain⟨u,e1,k⟩:=h2.getP (i:=i) (by simpa using e)
  exact⟨u,by simpa using e1,k⟩
theorem ak.drop:∀{ps:List PV} {vs:List V} (n:Nat),ak W G ps vs→ak W G (ps.drop n) (vs.drop n)
 |_,_,0,h=>by simpa using h
 |[],_,n+1,h=>by simp only [ak] at h;subst h;simp only [List.drop_nil];exact .nil
 |p::ps,_,n+1,h=>by
  obtain⟨v,r,rfl,h1,h2⟩:=h.uncons
  simpa using h2.drop n
theorem ak.take:∀{ps:List PV} {vs:List V} (n:Nat),ak W G ps vs→ak W G (ps.take n) (vs.take n)
 |_,_,0,h=>by simp only [List.take_zero];exact .nil
 |[],_,n+1,h=>by simp only [ak] at h;subst h;simp only [List.take_nil];exact .nil
 |p::ps,_,n+1,h=>by
  obtain⟨v,r,rfl,h1,h2⟩:=h.uncons
  simp only [List.take_succ_cons];exact .cons h1 (h2.take n)
end
def gN(H H':Hp):Prop:=∀b o,H b=some o→(∀ps,o≠.tbl ps)∧H' b=some o∨∃ps m,o=.tbl ps∧H' b=some (.tbl (ps++m))
theorem gN.refl(H:Hp):gN H H:=fun b o h=>by
 cases o with
 |tbl ps=>exact .inr ⟨ps,#[],rfl,by simpa using h⟩
 |_=>exact .inl ⟨(fun _ z=>nomatch z),h⟩
theorem gN.trans{H H1 H2:Hp}(a:gN H H1)(b:gN H1 H2):gN H H2:=fun c o h=>by
 rcases a c o h with⟨n,e⟩|⟨ps,m,rfl,e⟩
 ·rcases b c o e with y|⟨ps,m,rfl,e2⟩
  ·exact .inl y
  ·exact absurd rfl (n ps)
 ·rcases b c _ e with⟨n,_⟩|⟨oJ,m',e2,e3⟩
  ·exact absurd rfl (n _)
  ·cases e2;exact .inr ⟨ps,m++m',rfl,by rw [e3,Array.append_assoc]⟩
theorem gN.free{H H':Hp}(e:gN H H'){l:Addr}(h:H' l=Option.none):H l=Option.none:=by
 cases q:H l with
 |none=>rfl
 |some o=>
  rcases e l o q with⟨_,z⟩|⟨_,_,_,z⟩
  ·rw [h] at z;cases z
  ·rw [h] at z;cases z
theorem gN.at{H H':Hp}(e:gN H H'){b:Addr}{o:HO}(h:H b=some o)(n:∀ps,o≠.tbl ps):H' b=some o:=by
 rcases e b o h with⟨_,z⟩|⟨ps,_,rfl,_⟩
 ·exact z
 ·exact absurd rfl (n ps)
theorem gN.notup{H H':Hp}(e:gN H H'){b:Addr}(h:H b≠none)(n:∀vs,H b≠some (.tup vs)):∀vs,H' b≠some (.tup vs):=fun vs z=>by
 cases q:H b with
 |none=>exact h q
 |some o=>
  rcases e b o q with⟨_,y⟩|⟨_,_,_,y⟩
  ·rw [z] at y;cases y;exact n vs q
  ·rw [z] at y;cases y
theorem gN.of{H H':Hp}(e:aF H H'):gN H H':=fun b o h=>by
 cases o with
 |tbl ps=>exact .inr ⟨ps,#[],rfl,by simpa using e _ _ h⟩
 |_=>exact .inl ⟨(fun _ z=>nomatch z),e _ _ h⟩
theorem gN.tup{K:PySem.W.Frag}{H H':Hp}{a:Addr}{xs:List V}(e:gN H H')(h:eJ K H a xs):eJ K H' a xs:=by
 rcases h with(h|⟨o,h⟩)|h
 ·exact .inl (.inl (e.at h (fun _ z=>nomatch z)))
 ·exact .inl (.inr ⟨o,e.at h (fun _ z=>nomatch z)⟩)
 ·exact .inr h
theorem gN.ls{K:PySem.W.Frag}{H H':Hp}{a:Addr}{vs:List V}(e:gN H H')(h:LsR K H a vs):LsR K H' a vs:=by
 rcases h with(h|⟨o,h⟩)|h
 ·exact .inl (.inl (e.at h (fun _ z=>nomatch z)))
 ·exact .inl (.inr ⟨o,e.at h (fun _ z=>nomatch z)⟩)
 ·exact .inr h
def cD(W:Wd)(G H:Hp):Prop:=∀P q,(P,q)∈W.ts→G P=none∧∃ps,H P=some (.tbl ps)∧TriplesOk ps.toList∧
 ∀pos cv,codeAmong pos ps.toList=some cv→∃c' oc cU t,cv=.ref c'∧G c'=some (.frz oc bK)∧oc.data=.fields cU∧cU[1]?=some (.str q t)
theorem cD.same{W:Wd}{G G' H H':Hp}(t:cD W G H)(g:aF G G')(own:∀a,H a≠none→(∀vs,H a≠some (.tup vs))→G a=none→G' a=none)(h:∀P ps,H P=some (.tbl ps)→H' P=some (.tbl ps)):cD W G' H':=fun P q m=>by
 obtain⟨n,ps,e,tr,al⟩:=t P q m
 refine⟨own P (by rw [e];exact fun z=>nomatch z) (by rw [e];exact fun _ z=>nomatch z) n,ps,h P ps e,tr,fun pos cv y=>?_⟩
 obtain⟨c',oc,cU,t,e1,e2,e3,e4⟩:=al pos cv y
 exact⟨c',oc,cU,t,e1,g _ _ e2,e3,e4⟩
structure aJ(W:Wd)(G H G' H':Hp):Prop where
 g:aF G G'
 h:gN H H'
 sub:aF G' H'
 own:∀a,H a≠none→(∀vs,H a≠some (.tup vs))→G a=none→G' a=none
 tab:cD W G H→cD W G' H'
section
variable{W:Wd}
theorem aJ.refl{G H:Hp}(s:aF G H):aJ W G H G H:=⟨aF.refl _,gN.refl _,s,fun _ _ _ h=>h,id⟩
theorem aJ.trans{G H G1 H1 G2 H2:Hp}(a:aJ W G H G1 H1)(b:aJ W G1 H1 G2 H2):aJ W G H G2 H2:=
 ⟨a.g.trans b.g,a.h.trans b.h,b.sub,fun x hx ht hg=>b.own x (fun z=>hx (a.h.free z)) (a.h.notup hx ht) (a.own x hx ht hg),fun t=>b.tab (a.tab t)⟩
theorem mY{H:Hp}{p:Addr}{o:HO}(h:∀ps,H p≠some (.tbl ps))(P:Addr)(ps:Array Value)(e:H P=some (.tbl ps)):upd H p o P=some (.tbl ps):=by
 rw [ag (fun z=>by subst z;exact h ps e)];exact e
theorem aJ.new{G H:Hp}{p:Addr}{o:HO}(s:aF G H)(h:H p=none):aJ W G H (upd G p o) (upd H p o) where
 g:=bD (s.free h)
 h:=.of (bD h)
 sub:=fun b u e=>by
  by_cases hb:b=p
  ·subst hb;rw [av] at e⊢;exact e
  ·rw [ag hb] at e⊢;exact s _ _ e
 own:=fun a ha _ hg=>by
  have:a≠p:=fun z=>by subst z;exact ha h
  rw [ag this];exact hg
 tab:=fun t=>t.same (bD (s.free h)) (fun a ha _ hg=>by
  have:a≠p:=fun z=>by subst z;exact ha h
  rw [ag this];exact hg) (mY (fun ps z=>by rw [h] at z;cases z))
theorem aJ.adopt{G H:Hp}{b:Addr}{vs:List V}(s:aF G H)(h:H b=some (.tup vs)):aJ W G H (upd G b (.tup vs)) H:=by
 have sm:aF G (upd G b (.tup vs)):=fun c u e=>by
  by_cases hc:c=b
  ·subst hc;rw [av];have:=s _ _ e;rw [h] at this;exact this
  ·rw [ag hc];exact e
 have ow:∀a,H a≠none→(∀vs,H a≠some (.tup vs))→G a=none→upd G b (.tup vs) a=none:=fun a _ n e=>by
  have:a≠b:=fun z=>by subst z;exact n vs h
  rw [ag this];exact e
 exact⟨sm,gN.refl _,fun c u e=>by
  by_cases hc:c=b
  ·subst hc;rw [av] at e;cases e;exact h
  ·rw [ag hc] at e;exact s _ _ e,ow,fun t=>t.same sm ow fun _ _ e=>e⟩
theorem aJ.mine{G H:Hp}{p:Addr}{o:HO}(s:aF G H)(h:H p=none):aJ W G H G (upd H p o):=
 ⟨aF.refl _,.of (bD h),s.trans (bD h),fun _ _ _ hg=>hg,fun t=>t.same (aF.refl _) (fun _ _ _ h=>h) (mY (fun ps z=>by rw [h] at z;cases z))⟩
end
def bo(scope:Scope):List Str:=((scope.names.filter fun p=>p.2==.free).map (·.1)).reverse
def okN(x:Str):Bool:=!(x=="__debug__")&&!(x=="__classdict__")&&!(x=="__name__")
def gC(x:Str):Bool:=x.cps.toList.contains 64
def mZ:Arguments→Option (List Str)
 |⟨[],[],none,[],[],none,[]⟩=>some []
 |⟨[],[a],none,[],[],none,[]⟩=>some [a.arg]
 |_=>none
def d6:List Expr→List (Option Str)→Bool
 |[],[]=>true
 |.Name x _::r,some y::t=>x==y&&okN x&&d6 r t
 |_,_=>false
noncomputable def Jy(ps:List Str)(scope:Scope):Bool:=
 scope.kind==.function&&!scope.isCoroutine&&!scope.isGenerator&&decide ((ps++bo scope).Nodup)&&(scope.names.all fun y=>decide (y.2≠.cell))&&(ps.all fun x=>decide (scope.names.lookup x=some .local))&&((bo scope).all fun x=>decide (scope.names.lookup x=some .free))
noncomputable def yj(g:Str)(idx:List Nat)(params:Arguments)(body:Expr)(scope:Scope):Bool:=match mZ params,body with
 |some ps,.Call (.Name g' _) (a::as) [] _=>decide (idx.head?=some ps.length)&&g==g'&&scope.names.lookup g==some .globalImplicit&&okN g&&!gC g&&d6 (a::as) (idx.tail.map fun i=>(ps++bo scope)[i]?)&&Jy ps scope
 |_,_=>false
structure J7(W:Wd)(G:Hp)(g:Str)(idx:List Nat)(cL:List PV)(f c':Addr)(oc:Obj)(cU:Array Value)(t:Tok)(eW pm:Value)(params:Arguments)(body:Expr)(scope:Scope)(qual:Str)(cl:List (Str×Addr))(Z:List (Addr×Obj))(ws:List V):Prop where
 lg:yj g idx params body scope=true
 fo:G f=some (.frz (PySem.W.kla_obj "<lambda>" qual params body scope cl pm c' eW) bK)
 co:G c'=some (.frz oc bK)
 cd:oc.data=.fields cU
 cn:cU[1]?=some (.str qual t)
 fz:Z.lookup f=none
 cz:Z.lookup c'=none
 inj:∀x y c,cl.lookup x=some c→cl.lookup y=some c→x=y
 has:∀y∈bo scope,∃c,cl.lookup y=some c
 cells:∀x c,cl.lookup x=some c→∃o v,Z.lookup c=some o∧o.data=.cell v
 zs:∀b o,Z.lookup b=some o→G b=some (.frz o bK)
 zc:∀b o,Z.lookup b=some o→∃v,o.data=.cell v
 vals:∀(i:Nat) y c,(bo scope)[i]?=some y→cl.lookup y=some c→∀v,ws[i]?=some v→∃u o,RelV v u∧Z.lookup c=some o∧o.data=.cell (some u)
 len:ws.length=(bo scope).length
 rep:ak W (bf Z G) cL ws
def nJ(W:Wd)(G:Hp)(g:Str)(idx:List Nat)(cL:List PV)(v:V):Prop:=∃f c' oc cU t eW pm params body scope qual cl Z ws,v=.ref f∧J7 W G g idx cL f c' oc cU t eW pm params body scope qual cl Z ws
theorem mB{Z:List (Addr×Obj)}{G G':Hp}(s:aF G G'):aF (bf Z G) (bf Z G'):=fun b u e=>by
 obtain⟨q,e1⟩:=dD e
 rw [aC q];exact s _ _ e1
theorem nJ.same{W:Wd}{G G':Hp}{g:Str}{idx:List Nat}{cL:List PV}{v:V}(s:aF G G')(h:nJ W G g idx cL v):nJ W G' g idx cL v:=by
 obtain⟨f,c',oc,cU,t,eW,pm,params,body,scope,qual,cl,Z,ws,e,d⟩:=h
 exact⟨f,c',oc,cU,t,eW,pm,params,body,scope,qual,cl,Z,ws,e,⟨d.lg,s _ _ d.fo,s _ _ d.co,d.cd,d.cn,d.fz,d.cz,d.inj,d.has,d.cells,fun b o q=>s _ _ (d.zs b o q),d.zc,d.vals,d.len,ak.same (mB s) cL d.rep⟩⟩
inductive Slot where
 |no|val (p:PV)|own (p:PV)|fn (g:Str) (idx:List Nat) (cL:List PV)
 deriving Inhabited
abbrev Sl:=List Slot
def Own(W:Wd)(H0 G H:Hp):PV→V→Prop
 |.lst xs,v=>∃a vs,v=.ref a∧H a=some (.lst vs)∧G a=none∧H0 a=none∧ak W G xs vs
 |.dct ks ps,v=>∃a us,v=.ref a∧ks.length=us.length∧H a=some (.dT (kz ks us))∧G a=none∧H0 a=none∧ak W G ps us
 |_,_=>False
def Top(W:Wd)(H0 G H:Hp)(p:PV)(v:V):Prop:=Rep W G p v∨Own W H0 G H p v
def SlR(W:Wd)(H0 G H:Hp):Slot→Option V→Prop
 |.no,_=>True
 |.val p,o=>∃v,o=some v∧Rep W G p v
 |.own p,o=>∃v,o=some v∧Own W H0 G H p v
 |.fn g idx cL,o=>∃v,o=some v∧nJ W G g idx cL v
structure SR(W:Wd)(H0:Hp)(env:Sl)(σ:St)(G H:Hp):Prop where
 len:env.length=σ.length
 sub:aF G H
 base:gN H0 H
 slot:∀(i:Nat) (s:Slot),env[i]?=some s→∃o,σ[i]?=some o∧SlR W H0 G H s o
 apart:∀(i j:Nat) (p q:PV) (a:Addr),env[i]?=some (.own p)→env[j]?=some (.own q)→σ[i]?=some (some (.ref a))→σ[j]?=some (some (.ref a))→i=j
 tab:cD W G H
 tab0:cD W G H0
section
variable{W:Wd}{H0 G H G' H':Hp}{env:Sl}{σ:St}
theorem Own.grow(g:aJ W G H G' H'):∀{p:PV} {v:V},Own W H0 G H p v→Own W H0 G' H' p v
 |.lst xs,_,h=>by
  obtain⟨a,vs,e,h1,h2,h3,l⟩:=h
  exact⟨a,vs,e,g.h.at h1 (fun _ z=>nomatch z),g.own a (by rw [h1];exact fun z=>by cases z) (by rw [h1];exact fun _ z=>by cases z) h2,h3,ak.same g.g xs l⟩
 |.dct ks ps,_,h=>by
  obtain⟨a,vs,e,n,h1,h2,h3,l⟩:=h
  exact⟨a,vs,e,n,g.h.at h1 (fun _ z=>nomatch z),g.own a (by rw [h1];exact fun z=>by cases z) (by rw [h1];exact fun _ z=>by cases z) h2,h3,ak.same g.g ps l⟩
 |.non,_,h=>h|.bl _,_,h=>h|.int _,_,h=>h|.str _,_,h=>h|.tup _,_,h=>h|.exc _,_,h=>h
theorem SlR.grow(g:aJ W G H G' H'):∀{s:Slot} {o:Option V},SlR W H0 G H s o→SlR W H0 G' H' s o
 |.no,_,_=>trivial
 |.val p,_,h=>by obtain⟨v,e,r⟩:=h;exact⟨v,e,Rep.same g.g p r⟩
 |.own p,_,h=>by obtain⟨v,e,r⟩:=h;exact⟨v,e,r.grow g⟩
 |.fn _ _ _,_,h=>by obtain⟨v,e,r⟩:=h;exact⟨v,e,r.same g.g⟩
theorem SR.grow(r:SR W H0 env σ G H)(g:aJ W G H G' H'):SR W H0 env σ G' H':=
 ⟨r.len,g.sub,r.base.trans g.h,fun i s e=>by obtain⟨o,h1,h2⟩:=r.slot i s e;exact⟨o,h1,h2.grow g⟩,r.apart,g.tab r.tab,r.tab0.same g.g (fun a h1 h3 h2=>g.own a (fun z=>h1 (r.base.free z)) (r.base.notup h1 h3) h2) fun _ _ h=>h⟩
theorem Top.grow{p:PV}{v:V}(g:aJ W G H G' H')(h:Top W H0 G H p v):Top W H0 G' H' p v:=h.elim (fun z=>.inl (Rep.same g.g p z)) fun z=>.inr (z.grow g)
theorem Top.lst{xs:List PV}{v:V}(s:aF G H)(h:Top W H0 G H (.lst xs) v):∃a vs,v=.ref a∧LsR W.K H a vs∧ak W G xs vs:=by
 rcases h with h|h
 ·simp only [Rep] at h;obtain⟨a,vs,e,q,l⟩:=h
  exact⟨a,vs,e,aF.ls s q,l⟩
 ·obtain⟨a,vs,e,h1,_,_,l⟩:=h
  exact⟨a,vs,e,.inl (.inl h1),l⟩
theorem Top.tup{xs:List PV}{v:V}(s:aF G H)(h:Top W H0 G H (.tup xs) v):∃a vs,v=.ref a∧eJ W.K H a vs∧ak W G xs vs:=by
 rcases h with h|h
 ·simp only [Rep] at h;obtain⟨a,vs,e,q,l⟩:=h
  exact⟨a,vs,e,aF.tup s q.sq,l⟩
 ·exact h.elim
theorem Top.tupI{xs:List PV}{v:V}{ns:List Int}(s:aF G H)(hx:xs=ns.map .int)(h:Top W H0 G H (.tup xs) v):∃a,v=.ref a∧G a=some (.tup (ns.map V.int)):=by
 rcases h with h|h
 ·simp only [Rep] at h;obtain⟨a,vs,e,q,l⟩:=h
  have ev:vs=ns.map V.int:=by
   subst hx
   clear q e
   induction ns generalizing vs with
   |nil=>simp only [List.map_nil,ak] at l;exact l
   |cons n ns ih=>
    obtain⟨u,r,rfl,h1,h2⟩:=l.uncons
    simp only [Rep] at h1;rw [h1,ih r h2]
    rfl
  subst ev;rcases q with q|⟨_,z,hz⟩
  ·exact⟨a,e,q⟩
  ·obtain⟨n,_,hn⟩:=List.mem_map.mp hz
   cases hn
 ·exact h.elim
theorem Top.dct{ks:List (List Int)}{ps:List PV}{v:V}(s:aF G H)(h:Top W H0 G H (.dct ks ps) v):∃a us,v=.ref a∧ks.length=us.length∧Rd H a (.dT (kz ks us))∧ak W G ps us:=by
 rcases h with h|h
 ·simp only [Rep] at h;obtain⟨a,o,us,e,n,q,l⟩:=h
  exact⟨a,us,e,n,.inr ⟨o,s _ _ q⟩,l⟩
 ·obtain⟨a,vs,e,n,q,_,_,l⟩:=h
  exact⟨a,vs,e,n,.inl q,l⟩
theorem Top.int{i:Int}{v:V}(h:Top W H0 G H (.int i) v):v=.int i:=h.elim (fun z=>by simpa only [Rep] using z) fun z=>z.elim
theorem Top.bl{b:Bool}{v:V}(h:Top W H0 G H (.bl b) v):v=.bl b:=h.elim (fun z=>by simpa only [Rep] using z) fun z=>z.elim
theorem Top.str{b:Str}{v:V}(h:Top W H0 G H (.str b) v):v=.str b:=h.elim (fun z=>by simpa only [Rep] using z) fun z=>z.elim
theorem Top.non{v:V}(h:Top W H0 G H .non v):v=.non:=h.elim (fun z=>by simpa only [Rep] using z) fun z=>z.elim
theorem Rep.i{i:Int}:Rep W G (.int i) (.int i):=by simp only [Rep]
theorem Rep.b{i:Bool}:Rep W G (.bl i) (.bl i):=by simp only [Rep]
theorem Rep.s{i:Str}:Rep W G (.str i) (.str i):=by simp only [Rep]
theorem Rep.n:Rep W G .non .non:=by simp only [Rep]
theorem Rep.l{a:Addr}{xs:List PV}{vs:List V}(h:LsR W.K G a vs)(l:ak W G xs vs):Rep W G (.lst xs) (.ref a):=by simp only [Rep];exact⟨a,vs,rfl,h,l⟩
theorem Rep.t{a:Addr}{xs:List PV}{vs:List V}(h:Gv W.K G a vs)(l:ak W G xs vs):Rep W G (.tup xs) (.ref a):=by simp only [Rep];exact⟨a,vs,rfl,h,l⟩
end
end Ci
namespace L2
open PySem PySem.Spec PyProof.Rows
section
variable{X:Cx}
end
end L2
namespace HT
open PySem PySem.Spec PyProof.Rows
section
variable{prog:Program}{w:World}{A:Around}{E:Value→Shared→Prop}{s:Shared}
theorem pI{sl:Addr}{vk:Value}{n:Nat}{Q:Int×Int×Nat→Shared→Prop}(hs:s.heap.IsSliceOf sl .none .none vk)(pk:IsPart vk (some (-1)))
 (h:Q ((n:Int)-1, -1,n) s):wpAny (model prog w) A (Builtin.Slice.sliceApplied (.ref sl) (pure (n:Int))) Q E s:=by
 obtain⟨os,hos,hcs,hds⟩:=id hs
 unfold Builtin.Slice.sliceApplied Builtin.Slice.sliceFields;refine wpAny_bind (wpAny_bind (wpAny_field hos hds (x:=.none) rfl (wpAny_bind (wpAny_field hos hds (x:=.none) rfl (wpAny_bind (wpAny_field hos hds (x:=vk) rfl (wpAny_pure ?_)))))));refine wpAny_bind (sf pk ?_);show wpAny _ _ (if((-1:Int)==0)=true then _ else _) _ _ s;rw [if_neg (by decide)];refine wpAny_bind (slicePart_none (wpAny_bind (slicePart_none (wpAny_bind (wpAny_pure ?_)))));show wpAny _ _ (pure ((n:Int)-1,(-1:Int),Builtin.Slice.slicePlaces ((n:Int)-1) (-1) (-1))) _ _ s;have e:Builtin.Slice.slicePlaces ((n:Int)-1) (-1) (-1)=n:=by
  unfold Builtin.Slice.slicePlaces;rw [if_neg (by decide)];split
  ·have:((n:Int)-1 - -1-1)/(- -1)+1=n:=by rw [show(- -1:Int)=1 from rfl,Int.ediv_one];omega
   rw [this];omega
  ·omega
 rw [e];exact wpAny_pure h
theorem qe{α β:Type}{f g:α→Option β}:∀(l:List α),(∀m∈l,f m=g m)→l.filterMap f=l.filterMap g
 |[],_=>rfl
 |a::l,h=>by
  rw [List.filterMap_cons,List.filterMap_cons,h a (List.mem_cons_self ..),qe l fun m hm=>h m (List.mem_cons_of_mem _ hm)]
theorem wO(xs:Array Value):((List.range xs.size).filterMap fun(m:Nat)=>xs[((xs.size:Int)-1+(m:Int)*(-1)).toNat]?).toArray=xs.toList.reverse.toArray:=by
 congr 1
 refine List.ext_getElem? fun i=>?_
 have key:∀k,k≤xs.size→(List.range k).filterMap (fun(m:Nat)=>xs[((xs.size:Int)-1+(m:Int)*(-1)).toNat]?)=(List.range k).filterMap fun m=>xs.toList.reverse[m]?:=fun k hk=>by
  refine qe _ fun m hm=>?_
  have:=List.mem_range.1 hm
  rw [List.getElem?_reverse (by simpa using (by omega:m<xs.size)),Array.getElem?_toList,Array.length_toList]
  congr 1
  omega
 rw [key _ (Nat.le_refl _)];have:∀l:List Value,(List.range l.length).filterMap (fun m=>l[m]?)=l:=fun l=>by
  have:=PySem.W.krv_all l.toArray
  simpa using this
 have:=this xs.toList.reverse
 rw [List.length_reverse,Array.length_toList] at this;rw [this]
theorem getItem_tuple_rev{t sl:Addr}{items:Array Value}{vk:Value}{Q:Value→Shared→Prop}(ht:IsTup s.heap t items)(hs:s.heap.IsSliceOf sl .none .none vk)(pk:IsPart vk (some (-1)))
 (h:Q (.ref s.heap.objs.size) {s with heap:=s.heap.push {cls:=.type "tuple",data:=.seq items.toList.reverse.toArray}})
 (hsz:items.size≤sizeLine):wpAny (model prog w) A (getItem (.ref t) (.ref sl)) Q E s:=by
 have C9:sizeOk (.seq items.toList.reverse.toArray):=by
  show items.toList.reverse.toArray.size≤sizeLine
  rw [List.size_toArray,List.length_reverse,Array.length_toList];exact hsz
 obtain⟨os,hos,hcs,hds⟩:=id hs
 have Nm:s.TypeIs (.ref sl) "slice":=⟨os,hos,hcs⟩
 unfold getItem
 try with_reducible refine wpAny_holding ?_
 first|refine wpAny_bind (wpAny_pure ?_)|skip
 refine wpAny_bind (wpAny_sequenceKey ht.typeIs (by decide) ?_);refine wpAny_bind (wpAny_callSpecial?_slot (name:=Str.ofString "__getitem__") ht.typeIs PyProof.Rows.slot_tuple_getitem
  (wpAny_call_entry PyProof.Rows.slot_tuple_getitem ht.typeIs entry_tuple_getitem ?_ (args_tuple_getitem _ _)))
 show wpAny _ _ (Builtin.Tuple.tupleItemsOf (.ref t)>>=_) _ _ s
 refine wpAny_bind (tupleItemsOf_ ht ?_);refine wpAny_bind (wpAny_typeOf Nm ?_);rw [if_pos (by decide)];refine wpAny_bind (pI hs pk ?_);have Kz:¬((((items.size:Int)-1)==0&&(-1:Int)==1&&items.size==items.size)=true):=by
  intro q;rw [zza,zza] at q;exact absurd q.1.2 (by decide)
 show wpAny _ _ (if(((items.size:Int)-1)==0&&(-1:Int)==1&&items.size==items.size)=true then _ else _) _ _ s
 rw [if_neg Kz,wO]
 first
  |exact wpAny_bind (m:=Builtin.Tuple.tupleExact _) (wpAny_newObj_type (wpAny_pure ⟨_,rfl,wpAny_pure h⟩) C9)
  |exact wpAny_bind (m:=Builtin.Tuple.tupleExact _) (wpAny_newObj_type (wpAny_bind (wpAny_pure (wpAny_pure ⟨_,rfl,wpAny_pure h⟩))) C9)
end
end HT
namespace L2
open PySem PySem.Spec PyProof.Rows
def eT(z:Str):Str:=⟨z.cps.toList.reverse.toArray⟩
theorem BQ(n:Nat):Builtin.Str.strSliceIndices none none (-1) n=(List.range n).map fun k=>n-1-k:=by
 show sliceRange ((n:Int)-1) (-1) (-1)=_
 exact PySem.W.krv_sliceRange n
theorem uM{vs:List V}{us:List Value}(r:Vals vs us):Vals vs.reverse us.reverse:=by
 induction r with
 |nil=>exact .nil
 |cons h t ih=>
  rw [List.reverse_cons,List.reverse_cons];exact ih.append (.cons h .nil)
section
variable{X:Cx}{e st:Expr}{te ts:TE}{pos p2:Pos}
def Cy(X:Cx)(r:V→Hp→VK→Prop):Prop:=
 ∀(pins:List (Addr×Obj)) (s:Shared) (σ:St) (H:Hp) (x:V) (v vk:Value) (sl:Addr) (Q:VK),Inv X pins σ H s→RelV x v→s.heap.IsSliceOf sl .none .none vk→IsPart vk (some (-1))→r x H Q→
  ∃T id,typeLookup (.type T) "__getitem__"=pure (some (.builtin id))∧s.TypeIs v T∧wpAny (model X.prog X.w) X.A (getItem v (.ref sl)) (EP X pins σ Q) X.xe s
theorem Cy.or{r r':V→Hp→VK→Prop}(h:Cy X r)(h':Cy X r'):Cy X (fun x H Q=>r x H Q∨r' x H Q):=by
 intro pins s σ H x v vk sl Q I rx hs pk q;rcases q with q|q
 ·exact h pins s σ H x v vk sl Q I rx hs pk q
 ·exact h' pins s σ H x v vk sl Q I rx hs pk q
theorem Fs:Cy X (fun x H Q=>∃a xs,x=.ref a∧eJ X.K H a xs∧∀p,H p=none→Q (.ref p) (upd H p (.tup xs.reverse))):=by
 intro pins s σ H x v vk sl Q I rx hs pk h;obtain⟨a,xs,rfl,hx,q⟩:=h
 cases rx;obtain⟨aD,r,ht,hz⟩:=I.tuple hx
 have hlen:aD.toArray.size=xs.length:=by rw [List.size_toArray];exact r.length.symm
 refine⟨"tuple",_,PyProof.Rows.slot_tuple_getitem.lookup,ht.typeIs,HT.getItem_tuple_rev ht hs pk ?_ (by rw [hlen];exact hz)⟩;refine⟨.ref s.heap.objs.size,_,I.laid (t':=s.toks) (o:=.tup xs.reverse) (fun b ob q=>Heap.get?_push_of_some _ q) (Nat.le_refl _) ?_,rfl,q _ (I.hok.fresh (Nat.le_refl _))⟩;exact⟨by rw [List.length_reverse];exact hz,_,uM r,IsTup.new _ _⟩
theorem Dx:Cy X (fun x H Q=>∃z,x=.str z∧z.length≤sizeLine∧Q (.str (eT z)) H):=by
 intro pins s σ H x v vk sl Q I rx hs pk h;obtain⟨z,rfl,hz,q⟩:=h
 obtain⟨t,rfl⟩:=rx
 refine⟨"str",_,F.slot_str_getitem.lookup,typeIs_str _ _ _,?_⟩;cases pk with
 |int i ui=>
  refine wpAny_getItem_str_slice (l:=none) (u:=none) (st:=some (-1,ui)) hs rfl ?_;have e:sliceMade z t none none (some (-1,ui))=.str (eT z):=by
   unfold sliceMade;rw [if_neg (fun q=>by rw [zza] at q;exact absurd q.1 (show¬((-1:Int)==1)=true by decide))]
   unfold slicePicked eT
   congr 2
   show((Builtin.Str.strSliceIndices none none (-1) z.length).filterMap (z.cps[·]?)).toArray=_
   rw [BQ,PySem.W.krv_range,List.filterMap_reverse]
   congr 2
   have:=PySem.W.krv_all z.cps
   exact this
  rw [e];refine⟨?_,⟨.str _,H,I.tok _,⟨_,rfl⟩,q⟩⟩;show(eT z).cps.size≤sizeLine;have:(eT z).cps.size=z.length:=by simp [eT,Str.length]
  rw [this];exact hz
def Oh(r:V→Hp→VK→Prop)(te ts:TE):TE:=fun σ H Q=>te σ H fun x H1=>ts σ H1 fun k H2=>k=.int (-1)∧r x H2 Q
theorem DV{r:V→Hp→VK→Prop}(hr:Cy X r)(he:PE X e te)(hs:PE X st ts):PE X (.Subscript e (.Slice none none (some st) p2) pos) (Oh r te ts):=by
 intro pins s σ H Q I h;refine Subscript_ (bR (he pins s σ H _ I h) fun v s1 ⟨x,H1,I1,r1,q1⟩=>?_)
 refine wpAny_Slice ?_;rw [evalPart_none];refine wpAny_pure (wpAny_pure ?_);rw [evalPart_some];refine bR (hs pins s1 σ H1 _ I1 q1) fun u s3 ⟨k,H3,I3,r3,q3⟩=>?_
 obtain⟨rfl,q3⟩:=q3
 obtain⟨t,rfl⟩:=r3
 have I4:Inv X pins σ H3 {s3 with heap:=s3.heap.push {cls:=.type "slice",data:=.fields #[.none,.none,.int (-1) t]}}:=I3.kept (t':=s3.toks) fun b ob q=>Heap.get?_push_of_some _ q
 obtain⟨T,id,hT,ht,hg⟩:=hr pins {s3 with heap:=s3.heap.push {cls:=.type "slice",data:=.fields #[.none,.none,.int (-1) t]}} σ H3 x v (.int (-1) t) s3.heap.objs.size Q I4 r1 (Heap.IsSliceOf.new ..) (.int _ _) q3
 show wpAny (model X.prog X.w) X.A (subscriptTail e (.Slice none none (some st) p2) v (.ref s3.heap.objs.size)) (EP X pins σ Q) X.xe {s3 with heap:=s3.heap.push {cls:=.type "slice",data:=.fields #[.none,.none,.int (-1) t]}}
 exact tail_any (ops:=[v,.ref s3.heap.objs.size]) ht hT hg (by with_unfolding_all rfl)
end
end L2
namespace Ci
open PySem L2
inductive Res(α:Type) where
 |ok (a:α)|exc (c:Str)|bad
@[inline] def Res.bind{α β:Type}:Res α→(α→Res β)→Res β
 |.ok a,f=>f a
 |.exc c,_=>.exc c
 |.bad,_=>.bad
instance:Monad Res where
 pure:=.ok
 bind:=Res.bind
theorem Res.bind_ok{α β:Type}{r:Res α}{f:α→Res β}{b:β}(h:r.bind f=.ok b):∃a,r=.ok a∧f a=.ok b:=by
 cases r with
 |ok a=>exact⟨a,rfl,h⟩
 |exc c=>cases h
 |bad=>cases h
theorem Res.bind_exc{α β:Type}{r:Res α}{f:α→Res β}{c:Str}(h:r.bind f=.exc c):r=.exc c∨∃a,r=.ok a∧f a=.exc c:=by
 cases r with
 |ok a=>exact .inr ⟨a,rfl,h⟩
 |exc c'=>cases h;exact .inl rfl
 |bad=>cases h
def Res.of{α:Type}:Option α→Res α
 |some a=>.ok a
 |none=>.bad
def Res.well{α:Type}:Res α→Res α
 |.ok a=>.ok a
 |_=>.bad
abbrev dF:Nat:=1000000
def eqs(f:PV→PV→Bool):List PV→List PV→Bool
 |[],[]=>true
 |x::xs,y::ys=>f x y&&eqs f xs ys
 |_,_=>false
noncomputable def ir:Nat→PV→PV→Bool
 |_,.non,.non=>true
 |_,.bl a,.bl b=>a==b
 |_,.bl a,.int i=>(if a then 1 else 0)==i
 |_,.int i,.bl a=>i==(if a then 1 else 0)
 |_,.int i,.int j=>i==j
 |_,.str x,.str y=>x==y
 |n+1,.tup xs,.tup ys=>eqs (ir n) xs ys
 |n+1,.lst xs,.lst ys=>eqs (ir n) xs ys
 |_,_,_=>false
noncomputable def plain:Nat→PV→Bool
 |_,.non=>true
 |_,.bl _=>true
 |_,.int _=>true
 |_,.str _=>true
 |n+1,.tup xs=>xs.all (plain n)
 |n+1,.lst xs=>xs.all (plain n)
 |_,_=>false
abbrev DP:Nat:=9
noncomputable abbrev eqv:PV→PV→Bool:=ir DP
noncomputable abbrev zK:PV→Bool:=plain DP
inductive Gj where|add|sub|mul|mod|fdiv
inductive wH where|eq|ne|lt|le|gt|is|isn|in_|nin|neD
def aU(i:Int):Bool:=decide (-(2^64)<i)&&decide (i<2^64)
noncomputable def binOp:Gj→PV→PV→Res PV
 |.add,.int i,.int j=>.ok (.int (i+j))
 |.add,.str x,.str y=>if x.length+y.length≤dF then .ok (.str (x++y)) else .bad
 |.sub,.int i,.int j=>.ok (.int (i-j))
 |.mul,.int i,.int j=>if aU i||aU j then .ok (.int (i*j)) else .bad
 |.mod,.int i,.int j=>if 0<j then .ok (.int (i%j)) else .bad
 |.fdiv,.int i,.int j=>if 0<j∧j<1073741824 then .ok (.int (i/j)) else .bad
 |_,_,_=>.bad
def intsOf:List PV→Option (List Int)
 |[]=>some []
 |.int i::r=>(intsOf r).map (i::·)
 |_=>none
def ai{α:Type}:List (List Int)→List α→List Int→Option α
 |k'::ks,v::vs,k=>if k'=k then some v else ai ks vs k
 |_,_,_=>none
def cJ(ks:List (List Int))(k:List Int):Bool:=ks.any fun k'=>decide (k'=k)
def bE(ks:List (List Int))(k:List Int):List (List Int):=if cJ ks k then ks else ks++[k]
def bB{α:Type}(ks:List (List Int))(vs:List α)(k:List Int)(p:α):List α:=if cJ ks k then List.zipWith (fun k' v=>if k'=k then p else v) ks vs else vs++[p]
def bU(ks:List (List Int))(k:List Int):List (List Int):=ks.filter fun k'=>decide (k'≠k)
def aW{α:Type}:List (List Int)→List α→List Int→List α
 |k'::ks,v::vs,k=>if k'=k then aW ks vs k else v::aW ks vs k
 |_,_,_=>[]
def aq(k:List Int):PV:=.tup (k.map .int)
def iF:PV→Option (List Int)
 |.tup xs=>intsOf xs
 |_=>none
def lC:List PV→Option (List (List Int×PV))
 |[]=>some []
 |.tup [x,y]::r=>(iF x).bind fun k=>(lC r).map ((k,y)::·)
 |_=>none
def bF{α:Type}:List (List Int×α)→List (List Int)→List α→List (List Int)×List α
 |[],ks,vs=>(ks,vs)
 |p::r,ks,vs=>bF r (bE ks p.1) (bB ks vs p.1 p.2)
noncomputable def B8(x:PV)(ys:List PV):Bool:=ys.any fun y=>eqv y x
noncomputable def fG(a b:PV):Res PV:=if zK a&&zK b then .ok (.bl (eqv a b)) else .bad
noncomputable def iX(a b:PV):Res PV:=if zK a&&zK b then .ok (.bl (!eqv a b)) else .bad
def oN:PV→PV→Res PV
 |.int i,.int j=>.ok (.bl (decide (i<j)))
 |_,_=>.bad
def pZ:PV→PV→Res PV
 |.int i,.int j=>.ok (.bl (decide (i≤j)))
 |_,_=>.bad
def qV:PV→PV→Res PV
 |.int i,.int j=>.ok (.bl (decide (j<i)))
 |_,_=>.bad
def y6:PV→Bool
 |.non=>true
 |_=>false
def rO:PV→PV→Res PV
 |a,.non=>.ok (.bl (y6 a))
 |_,_=>.bad
def e8:PV→PV→Res PV
 |a,.non=>.ok (.bl (!y6 a))
 |_,_=>.bad
def rn:PV→PV→Res PV
 |a,.dct ks _=>(Res.of (iF a)).bind fun k=>.ok (.bl (cJ ks k))
 |_,_=>.bad
noncomputable def fb:PV→PV→Res PV
 |a,.lst ys=>if zK a&&ys.all zK then .ok (.bl (!B8 a ys)) else .bad
 |a,.dct ks _=>(Res.of (iF a)).bind fun k=>.ok (.bl (!cJ ks k))
 |_,_=>.bad
noncomputable def oo(jb:List (List Int))(wA:List Int):List (List Int)→List Int→Bool
 |k::ks,n::ns=>match ai jb wA k with
  |some m=>n==m&&oo jb wA ks ns
  |none=>false
 |_,_=>true
noncomputable def iS:PV→PV→Res PV
 |.dct ks vs,.dct jb BO=>(Res.of (intsOf vs)).bind fun ns=>(Res.of (intsOf BO)).bind fun ms=>.ok (.bl (!(ks.length==jb.length&&oo jb ms ks ns)))
 |_,_=>.bad
noncomputable def c7:wH→PV→PV→Res PV
 |.eq=>fG|.ne=>iX|.lt=>oN|.le=>pZ|.gt=>qV|.is=>rO|.isn=>e8|.in_=>rn|.nin=>fb|.neD=>iS
noncomputable def aM:PV→PV→Res PV
 |.lst xs,.int i=>Res.of (pL xs i)
 |.tup xs,.int i=>Res.of (pL xs i)
 |.str z,.int i=>if z.length≤dF then(Res.of (pL z.cps.toList i)).bind fun c=>.ok (.str ⟨#[c]⟩) else .bad
 |.dct ks vs,y=>(Res.of (iF y)).bind fun k=>Res.of (ai ks vs k)
 |_,_=>.bad
def qL{α:Type}(xs:List α)(lo hi:Option Int):List α:=(xs.drop (HT.sIx xs.length 0 lo)).take (HT.sIx xs.length xs.length hi-HT.sIx xs.length 0 lo)
def eV:PV→Option Int→Option Int→Res PV
 |.lst xs,lo,hi=>.ok (.lst (qL xs lo hi))
 |_,_,_=>.bad
inductive B where|len|abs|max2|int|str|tuple|sorted|dict
def chars(z:Str):List PV:=z.cps.toList.map fun c=>.str ⟨#[c]⟩
noncomputable def si:List PV→Res PV
 |[.lst xs]=>.ok (.int xs.length)
 |[.tup xs]=>.ok (.int xs.length)
 |[.str z]=>if z.length≤dF then .ok (.int z.length) else .bad
 |[.dct ks _]=>.ok (.int ks.length)
 |_=>.bad
def xt:List PV→Res PV
 |[.int i]=>.ok (.int (if i<0 then -i else i))
 |_=>.bad
def yJ:List PV→Res PV
 |[.int i,.int j]=>.ok (.int (if j>i then j else i))
 |_=>.bad
def xC:List PV→Res PV
 |[.str z]=>if z.length≤640 then(Res.of (PySem.intText? z)).bind fun n=>.ok (.int n) else .bad
 |_=>.bad
def yf:List PV→Res PV
 |[.int i]=>if i.natAbs.log2<1920 then .ok (.str (toString i)) else .bad
 |_=>.bad
def j2:List PV→Res PV
 |[.lst xs]=>.ok (.tup xs)
 |_=>.bad
noncomputable def ip:List PV→Res PV
 |[.dct ks _]=>if decide (ks.length<64)&&ks.all (fun k=>!k.isEmpty) then .ok (.lst (m9 .non (ks.map aq) ks)) else .bad
 |_=>.bad
def pR:List PV→Res PV
 |[.lst xs]=>(Res.of (lC xs)).bind fun ps=>.ok (.dct (bF ps [] []).1 (bF ps [] []).2)
 |_=>.bad
noncomputable def cV:B→List PV→Res PV
 |.len=>si|.abs=>xt|.max2=>yJ|.int=>xC|.str=>yf|.tuple=>j2|.sorted=>ip|.dict=>pR
inductive Ty where|int|bool|tuple|list
def ax:Ty→PV→Bool
 |.int,.int _=>true
 |.int,.bl _=>true
 |.bool,.bl _=>true
 |.tuple,.tup _=>true
 |.list,.lst _=>true
 |_,_=>false
def ay(t:Ty):PV→Res PV
 |.exc _=>.bad
 |.dct _ _=>.bad
 |p=>.ok (.bl (ax t p))
def strsOf:List PV→Option (List Str)
 |[]=>some []
 |.str z::r=>(strsOf r).map (z::·)
 |_=>none
inductive M where|join
noncomputable def pE:List PV→Res PV
 |[.str z,.lst xs]=>(Res.of (strsOf xs)).bind fun ys=>if z.length≤16∧(ys.map (·.length)).sum+ys.length≤dF then .ok (.str (Txt.join z ys)) else .bad
 |_=>.bad
noncomputable def sF:M→List PV→Res PV
 |.join=>pE
def tV:M→PV→Bool
 |.join,.str _=>true
 |_,_=>false
inductive Tg where
 |one (i:Nat)|two (i j:Nat)
mutual
inductive E where
 |var (i:Nat)|tmp (i:Nat)
 |cst (p:PV)
 |glob (g:Str) (p:PV)
 |call (f:Str) (as:Es)
 |callv (i:Nat) (as:Es)
 |callL (f:Str) (as:Es) (g:Str) (idx:List Nat) (ba:List Nat)
 |blt (b:B) (as:Es)
 |ty (t:Ty) (a:E)
 |mth (m:M) (o:E) (as:Es)
 |bin (o:Gj) (a b:E)
 |cmp (o:wH) (a b:E)
 |ch (o1 o2:wH) (a b c:E)
 |not (a:E)
 |neg (a:E)
 |and (a b:E)|or (a b:E)
 |ite (c a b:E)
 |tup (as:Es)|lst (as:Es)
 |sub (a b:E)
 |slice (a:E) (lo hi:Oe)
 |comp (k:Nat) (ba:List Nat) (tg:Tg) (it:I) (elt:E)
 |compIf (k:Nat) (ba:List Nat) (tg:Tg) (it:I) (c elt:E)
 |rev (a:E)
inductive Es where
 |nil|cons (e:E) (es:Es)
inductive Oe where
 |no|some (e:E)
inductive I where
 |seq (e:E)|rng (e:E)|rng2 (a b:E)|enum (e:E)
end
mutual
inductive S where
 |expr (e:E)
 |set (i:Nat) (e:E)
 |own (i:Nat) (e:E)
 |frz (i:Nat)
 |app (i:Nat) (e:E)
 |extd (i:Nat) (e:E)
 |put (i:Nat) (k e:E)
 |ret (e:E)
 |ite (c:E) (a b:Ss)
 |for_ (tg:Tg) (it:I) (b:Ss)
 |whl (c:E) (b:Ss)
 |raise (c:Str) (m:Str)
 |brk
 |dnew (i:Nat)
 |putPop (i j n:Nat)
 |minK (m i:Nat)
 |unl (i j l:Nat) (e:E)
inductive Ss where
 |nil|cons (s:S) (ss:Ss)
end
def dX:List Int→Nat→Nat→Int→Nat
 |[],_,b,_=>b
 |c::cs,j,b,m=>if c<m then dX cs (j+1) j c else dX cs (j+1) b m
def xQ:List Int→Option Nat
 |[]=>none
 |c::cs=>some (dX cs 1 0 c)
def gH:List PV→Option (List Int)
 |[]=>some []
 |.tup (.int c::_)::r=>(gH r).map (c::·)
 |_=>none
abbrev aV:=Str→List PV→Res PV
def lJ:Option Slot→Res PV
 |some (.val p)=>.ok p
 |_=>.bad
def xx:Option Slot→Res PV
 |some (.val p)=>.ok p
 |some (.own p)=>.ok p
 |_=>.bad
def Tg.put:Tg→PV→Sl→Res Sl
 |.one i,p,env=>.ok (env.set i (.val p))
 |.two i j,.tup [a,b],env=>.ok ((env.set i (.val a)).set j (.val b))
 |_,_,_=>.bad
def iI(env:Sl):List Nat→Res (List PV)
 |[]=>.ok []
 |i::r=>(lJ env[i]?).bind fun p=>(iI env r).bind fun ps=>.ok (p::ps)
def eh(l:List PV):List Nat→Res (List PV)
 |[]=>.ok []
 |i::r=>(Res.of l[i]?).bind fun p=>(eh l r).bind fun ps=>.ok (p::ps)
def aw(env:Sl)(ba:List Nat):Sl:=ba.map fun i=>env.getD i .no
def itemsOf:PV→Res (List PV)
 |.lst xs=>.ok xs
 |.tup xs=>.ok xs
 |.str z=>.ok (chars z)
 |_=>.bad
def va(e:E)(p:PV):Res (List PV):=match p,e with
 |.dct _ _,.tmp _=>.bad
 |.dct ks _,_=>.ok (ks.map aq)
 |.lst xs,_=>.ok xs
 |.tup xs,_=>.ok xs
 |_,_=>.bad
def dw(lo:Int)(n:Nat):List PV:=(List.range n).map fun i=>.int (lo+(i:Nat))
def aP(i:Int):Bool:=decide (-(2^62)≤i)&&decide (i<2^62)
def cB(n:Nat):List PV→List PV
 |[]=>[]
 |x::xs=>.tup [.int (n:Nat),x]::cB (n+1) xs
def oc:Option PV→List PV→List PV
 |some y,ys=>y::ys
 |none,ys=>ys
def bp(f:PV→Res (Option PV)):List PV→Res (List PV)
 |[]=>.ok []
 |x::xs=>(f x).well.bind fun o=>(bp f xs).bind fun ys=>.ok (oc o ys)
def qA{α:Type}(p:PV)(f:Bool→Res α):Res α:=match p with
 |.bl b=>f b
 |_=>.bad
section
variable(F:aV)
mutual
noncomputable def az:E→Sl→Res PV
 |.var i,env=>lJ env[i]?
 |.tmp i,env=>xx env[i]?
 |.cst p,_=>.ok p
 |.glob _ p,_=>.ok p
 |.call f as,env=>(au as env).bind fun ps=>F f ps
 |.callv i as,env=>match env[i]? with
  |some (.fn g idx cL)=>(au as env).bind fun ps=>if idx.head?=some ps.length then(eh (ps++cL) idx.tail).bind fun qs=>F g qs else .bad
  |_=>.bad
 |.callL f as _ _ ba,env=>(au as env).bind fun ps=>(iI env ba).bind fun cs=>F f (ps++cs)
 |.blt b as,env=>(au as env).bind fun ps=>cV b ps
 |.ty t a,env=>(az a env).bind fun p=>ay t p
 |.mth m o as,env=>(az o env).bind fun p=>if tV m p then(au as env).bind fun ps=>sF m (p::ps) else .bad
 |.bin o a b,env=>(az a env).bind fun x=>(az b env).bind fun y=>binOp o x y
 |.cmp o a b,env=>(az a env).bind fun x=>(az b env).bind fun y=>c7 o x y
 |.ch o1 o2 a b c,env=>(az a env).bind fun x=>(az b env).bind fun y=>(c7 o1 x y).bind fun t=>qA t fun t=>
  if t then(az c env).bind fun z=>c7 o2 y z else .ok (.bl false)
 |.not a,env=>(az a env).bind fun x=>qA x fun b=>.ok (.bl (!b))
 |.neg a,env=>(az a env).bind fun x=>match x with|.int i=>.ok (.int (-i))|_=>.bad
 |.and a b,env=>(az a env).bind fun x=>qA x fun t=>if t then az b env else .ok (.bl false)
 |.or a b,env=>(az a env).bind fun x=>qA x fun t=>if t then .ok (.bl true) else az b env
 |.ite c a b,env=>(az c env).bind fun x=>qA x fun t=>if t then az a env else az b env
 |.tup as,env=>(au as env).bind fun ps=>.ok (.tup ps)
 |.lst as,env=>(au as env).bind fun ps=>.ok (.lst ps)
 |.sub a b,env=>(az a env).bind fun x=>(az b env).bind fun y=>aM x y
 |.slice a lo hi,env=>(az a env).bind fun x=>(aS lo env).bind fun l=>(aS hi env).bind fun h=>eV x l h
 |.comp k ba tg it elt,env=>(aQ it env).bind fun xs=>if xs.length<dF then(bp (fun x=>(tg.put x (List.replicate k .no++aw env ba)).bind fun aE=>(az elt aE).bind fun y=>.ok (some y)) xs).bind fun ys=>.ok (.lst ys) else .bad
 |.compIf k ba tg it c elt,env=>(aQ it env).bind fun xs=>if xs.length<dF then(bp (fun x=>(tg.put x (List.replicate k .no++aw env ba)).bind fun aE=>(az c aE).bind fun t=>qA t fun t=>if t then(az elt aE).bind fun y=>.ok (some y) else .ok none) xs).bind fun ys=>.ok (.lst ys) else .bad
 |.rev a,env=>(az a env).bind fun p=>match p with|.str z=>(if z.length≤dF then .ok (.str (eT z)) else .bad)|.tup xs=>.ok (.tup xs.reverse)|_=>.bad
noncomputable def au:Es→Sl→Res (List PV)
 |.nil,_=>.ok []
 |.cons e es,env=>(az e env).bind fun p=>(au es env).bind fun ps=>.ok (p::ps)
noncomputable def aS:Oe→Sl→Res (Option Int)
 |.no,_=>.ok none
 |.some e,env=>(az e env).bind fun p=>match p with|.int i=>.ok (some i)|_=>.bad
noncomputable def aQ:I→Sl→Res (List PV)
 |.seq e,env=>(az e env).bind (va e)
 |.rng e,env=>(az e env).bind fun p=>match p with|.int j=>if aP j then .ok (dw 0 j.toNat) else .bad|_=>.bad
 |.rng2 a b,env=>(az a env).bind fun p=>(az b env).bind fun q=>match p,q with|.int i,.int j=>if aP i&&aP j then .ok (dw i (j-i).toNat) else .bad|_,_=>.bad
 |.enum e,env=>(az e env).bind fun p=>(itemsOf p).bind fun xs=>.ok (cB 0 xs)
end
end
inductive Fl where
 |nx (env:Sl)|bk (env:Sl)|ct (env:Sl)|rt (p:PV)
def Fl.seq(f:Fl)(k:Sl→Res Fl):Res Fl:=match f with
 |.nx env=>k env
 |f=>.ok f
noncomputable def forL(body:PV→Sl→Res Fl):List PV→Sl→Res Fl
 |[],env=>.ok (.nx env)
 |x::xs,env=>(body x env).bind fun f=>match f with
  |.nx aE=>forL body xs aE
  |.ct aE=>forL body xs aE
  |.bk aE=>.ok (.nx aE)
  |.rt p=>.ok (.rt p)
noncomputable def cX(c:Sl→Res PV)(body:Sl→Res Fl):Nat→Sl→Res Fl
 |0,_=>.bad
 |n+1,env=>(c env).bind fun t=>qA t fun t=>if t then(body env).bind fun f=>(match f with
  |.nx aE=>cX c body n aE
  |.ct aE=>cX c body n aE
  |.bk aE=>.ok (.nx aE)
  |.rt p=>.ok (.rt p)) else .ok (.nx env)
abbrev WN:Nat:=1000000
def nt:Slot→Slot
 |.own p=>.val p
 |s=>s
section
variable(F:aV)
mutual
noncomputable def aL:S→Sl→Res Fl
 |.expr e,env=>(az F e env).bind fun _=>.ok (.nx env)
 |.set i e,env=>(az F e env).bind fun p=>.ok (.nx (env.set i (.val p)))
 |.own i e,env=>(az F e env).bind fun p=>.ok (.nx (env.set i (.own p)))
 |.frz i,env=>.ok (.nx (env.modify i nt))
 |.app i e,env=>match env[i]? with
  |some (.own (.lst xs))=>(az F e env).bind fun p=>if xs.length<dF then .ok (.nx (env.set i (.own (.lst (xs++[p]))))) else .bad
  |_=>.bad
 |.extd i e,env=>match env[i]? with
  |some (.own (.lst xs))=>(az F e env).bind fun p=>match p with
   |.lst ys=>if xs.length+ys.length≤dF then .ok (.nx (env.set i (.own (.lst (xs++ys))))) else .bad
   |_=>.bad
  |_=>.bad
 |.put i k e,env=>(az F e env).bind fun p=>match env[i]? with
  |some (.own (.dct ks vs))=>(az F k env).bind fun kp=>match iF kp with
   |some kk=>if ks.length<dF then .ok (.nx (env.set i (.own (.dct (bE ks kk) (bB ks vs kk p))))) else .bad
   |none=>.bad
  |_=>.bad
 |.ret e,env=>(az F e env).bind fun p=>.ok (.rt p)
 |.ite c a b,env=>(az F c env).bind fun p=>qA p fun t=>if t then ah a env else ah b env
 |.for_ tg it b,env=>(aQ F it env).bind fun xs=>forL (fun x env=>(tg.put x env).bind fun aE=>ah b aE) xs env
 |.whl c b,env=>cX (az F c) (ah b) WN env
 |.raise c _,_=>.exc c
 |.brk,env=>.ok (.bk env)
 |.dnew i,env=>.ok (.nx (env.set i (.own (.dct [] []))))
 |.putPop i j n,env=>match env[j]?,env[i]?,env[n]? with
  |some (.own (.dct ks vs)),some (.own (.dct ks2 vs2)),some (.val kp)=>match iF kp with
   |some kk=>match ai ks vs kk with
    |some p=>if ks2.length<dF∧i≠j then .ok (.nx ((env.set j (.own (.dct (bU ks kk) (aW ks vs kk)))).set i (.own (.dct (bE ks2 kk) (bB ks2 vs2 kk p))))) else .bad
    |none=>.bad
   |none=>.bad
  |_,_,_=>.bad
 |.minK m i,env=>match env[i]? with
  |some (.own (.dct ks vs))=>match gH vs with
   |some cs=>match(xQ cs).bind fun x=>ks[x]? with
    |some k=>.ok (.nx (env.set m (.val (aq k))))
    |none=>.bad
   |none=>.bad
  |_=>.bad
 |.unl i j l e,env=>(az F e env).bind fun p=>match p with
  |.lst [a,b,c]=>.ok (.nx (((env.set i (.val a)).set j (.val b)).set l (.val c)))
  |_=>.bad
noncomputable def ah:Ss→Sl→Res Fl
 |.nil,env=>.ok (.nx env)
 |.cons s ss,env=>(aL s env).bind fun f=>f.seq (ah ss)
end
end
structure Def where
 N:List Str
 np:Nat
 body:Ss
 clo:Option (Str×List Nat):=none
noncomputable def aa(d:Def)(as:List PV):Sl:=match d.clo with
 |none=>as.map .val++List.replicate (d.N.length-as.length) .no
 |some q=>(as.take (d.np-1)).map .val++.fn q.1 q.2 (as.drop (d.np-1))::List.replicate (d.N.length-d.np) .no
noncomputable def ae(d:Def)(as:List PV):Bool:=match d.clo with
 |none=>as.length==d.np
 |some _=>decide (0<d.np)&&decide (d.np-1≤as.length)
noncomputable def af(F:aV)(d:Def)(as:List PV):Res PV:=
 if ae d as then(ah F d.body (aa d as)).bind fun f=>match f with
  |.nx _=>.ok .non
  |.rt p=>.ok p
  |_=>.bad
 else .bad
noncomputable def den:List (Str×Def)→aV
 |[],_,_=>.bad
 |(n,d)::r,f,as=>if f==n then af (den r) d as else den r f as
end Ci
namespace Ci
open PySem L2
abbrev ki(k:List Int):List Key:=k.map Sum.inl
theorem rA{a b:List Int}(h:ki a=ki b):a=b:=by
 induction a generalizing b with
 |nil=>cases b with|nil=>rfl|cons=>cases h
 |cons x a ih=>cases b with
  |nil=>cases h
  |cons y b=>simp only [ki,List.map_cons,List.cons.injEq,Sum.inl.injEq] at h;rw [h.1,ih h.2]
theorem nX(k:List Int):(ki k).map kV=k.map V.int:=by
 unfold ki;rw [List.map_map]
 rfl
theorem gX{k:List Int}{ks:List (List Int)}{u:V}{us:List V}:kz (k::ks) (u::us)=(ki k,u)::kz ks us:=rfl
theorem eK{ks:List (List Int)}{us:List V}(h:ks.length=us.length):(kz ks us).length=ks.length:=by
 unfold kz;rw [List.length_zip,zzl];omega
theorem nZ{ks:List (List Int)}{us:List V}(h:ks.length=us.length):(kz ks us).map (·.1)=ks.map ki:=by
 unfold kz;exact List.map_fst_zip (by rw [zzl];omega)
theorem gG(k:List Int):∀(ks:List (List Int)) (us:List V),gq (kz ks us) (ki k)=ai ks us k
 |[],us=>by unfold ai;rfl
 |a::ks,[]=>by unfold ai;rfl
 |a::ks,u::us=>by
  rw [gX];unfold ai
  by_cases h:a=k
  ·subst h;rw [if_pos rfl];exact fL rfl
  ·rw [if_neg h,fk (fun z=>h (rA z))];exact gG k ks us
theorem i7{α:Type}(k:List Int):∀(ks:List (List Int)) (us:List α),ks.length=us.length→(ai ks us k).isSome=cJ ks k
 |[],[],_=>rfl
 |a::ks,u::us,h=>by
  unfold ai cJ;rw [List.any_cons]
  by_cases e:a=k
  ·simp [e]
  ·rw [if_neg e];have:=i7 k ks us (by simpa using h)
   unfold cJ at this;rw [this];simp [e]
 |[],_::_,h=>by simp at h
 |_::_,[],h=>by simp at h
theorem DS(k:List Int):∀(ks:List (List Int)) (us:List V),ks.length=us.length→((kz ks us).any fun kv=>decide (kv.1=ki k))=cJ ks k:=fun ks us h=>by
 rw [jm,gG,i7 k ks us h]
theorem rV{ks:List (List Int)}{us:List V}(h:ks.length=us.length)(k:List Int)(v:V):putK (kz ks us) (ki k) v=kz (bE ks k) (bB ks us k v):=by
 unfold putK bE bB;rw [DS k ks us h];split
 ·have go:∀(ks:List (List Int)) (us:List V),(kz ks us).map (fun kv=>if kv.1=ki k then(kv.1,v) else kv)=kz ks (List.zipWith (fun k' u=>if k'=k then v else u) ks us):=by
   intro ks
   induction ks with
   |nil=>intro us;simp [kz]
   |cons a ks ih=>
    intro us;cases us with
    |nil=>simp [kz]
    |cons u us=>
     rw [gX,List.map_cons,List.zipWith_cons_cons,gX,ih]
     by_cases e:a=k
     ·simp [e]
     ·rw [if_neg (fun z=>e (rA z)),if_neg e]
  exact go ks us
 ·unfold kz;rw [List.map_append,List.zip_append (by rw [zzl];exact h)]
  rfl
theorem j4{α:Type}{ks:List (List Int)}{us:List α}(h:ks.length=us.length)(k:List Int)(v:α):(bE ks k).length=(bB ks us k v).length:=by
 unfold bE bB;split
 ·rw [List.length_zipWith];omega
 ·simp [h]
theorem sJ(k:List Int):∀{ks:List (List Int)} {us:List V},ks.length=us.length→eX (kz ks us) (ki k)=kz (bU ks k) (aW ks us k)
 |[],[],_=>rfl
 |a::ks,u::us,h=>by
  have ih:=sJ k (ks:=ks) (us:=us) (by simpa using h)
  unfold bU aW;rw [gX,List.filter_cons]
  by_cases e:a=k
  ·subst e;rw [vO rfl,ih];simp [bU]
  ·rw [u9 (fun z=>e (rA z)),ih,if_neg e,if_pos (by simpa using e),gX]
   rfl
 |[],_::_,h=>by simp at h
 |_::_,[],h=>by simp at h
theorem o8{α:Type}(k:List Int):∀{ks:List (List Int)} {us:List α},ks.length=us.length→(bU ks k).length=(aW ks us k).length
 |[],[],_=>by unfold aW;rfl
 |a::ks,u::us,h=>by
  have ih:=o8 k (ks:=ks) (us:=us) (by simpa using h)
  unfold bU aW;rw [List.filter_cons]
  by_cases e:a=k
  ·subst e;rw [if_neg (by simp),if_pos rfl];exact ih
  ·rw [if_neg e,if_pos (by simpa using e),List.length_cons,List.length_cons];exact congrArg (·+1) ih
 |[],_::_,h=>by simp at h
 |_::_,[],h=>by simp at h
section
variable{W:Wd}{G:Hp}
theorem oE{k:List Int}{p:PV}:∀{ks:List (List Int)} {ps:List PV} {us:List V},ak W G ps us→ai ks ps k=some p→∃v,ai ks us k=some v∧Rep W G p v
 |[],_,_,_,e=>by unfold ai at e;cases e
 |a::ks,[],_,_,e=>by unfold ai at e;cases e
 |a::ks,q::ps,_,l,e=>by
  obtain⟨v,r,rfl,h1,h2⟩:=l.uncons
  unfold ai at e⊢
  by_cases h:a=k
  ·rw [if_pos h] at e⊢;cases e;exact⟨v,rfl,h1⟩
  ·rw [if_neg h] at e⊢;exact oE h2 e
theorem xy{k:List Int}{p:PV}{v:V}(hp:Rep W G p v):∀{ks:List (List Int)} {ps:List PV} {us:List V},ak W G ps us→ak W G (List.zipWith (fun k' v=>if k'=k then p else v) ks ps) (List.zipWith (fun k' u=>if k'=k then v else u) ks us)
 |[],_,_,_=>by simp only [List.zipWith_nil_left];exact .nil
 |a::ks,[],_,l=>by simp only [ak] at l;subst l;simp only [List.zipWith_nil_right];exact .nil
 |a::ks,q::ps,_,l=>by
  obtain⟨u,r,rfl,h1,h2⟩:=l.uncons
  rw [List.zipWith_cons_cons,List.zipWith_cons_cons];refine .cons ?_ (xy hp h2);split
  ·exact hp
  ·exact h1
theorem m8{ks:List (List Int)}{ps:List PV}{us:List V}{k:List Int}{p:PV}{v:V}(l:ak W G ps us)(hp:Rep W G p v):ak W G (bB ks ps k p) (bB ks us k v):=by
 unfold bB;split
 ·exact xy hp l
 ·exact l.append (.cons hp .nil)
theorem jr{k:List Int}:∀{ks:List (List Int)} {ps:List PV} {us:List V},ak W G ps us→ak W G (aW ks ps k) (aW ks us k)
 |[],_,_,_=>by unfold aW;exact .nil
 |a::ks,[],_,l=>by simp only [ak] at l;subst l;unfold aW;exact .nil
 |a::ks,q::ps,_,l=>by
  obtain⟨u,r,rfl,h1,h2⟩:=l.uncons
  unfold aW;split
  ·exact jr h2
  ·exact .cons h1 (jr h2)
end
theorem mh:∀{xs:List PV} {ns:List Int},intsOf xs=some ns→xs=ns.map .int
 |[],_,e=>by cases e;rfl
 |.int i::r,_,e=>by
  unfold intsOf at e;obtain⟨ns,h1,rfl⟩:=Option.map_eq_some_iff.mp e
  rw [mh h1];rfl
 |.non::_,_,e=>by cases e
 |.bl _::_,_,e=>by cases e
 |.str _::_,_,e=>by cases e
 |.tup _::_,_,e=>by cases e
 |.lst _::_,_,e=>by cases e
 |.exc _::_,_,e=>by cases e
 |.dct _ _::_,_,e=>by cases e
theorem fU{p:PV}{k:List Int}(h:iF p=some k):p=aq k:=by
 unfold iF at h;split at h
 ·rw [mh h];rfl
 ·cases h
end Ci
namespace L2
open PySem PySem.Spec PyProof.Rows
section
variable{X:Cx}
end
end L2
namespace L2
open PySem PySem.Spec PyProof.Rows
section
variable{X:Cx}
end
end L2
namespace Ci
open PySem L2
theorem jy{n:Nat}(h:n≤dF):n≤sizeLine:=Nat.le_trans h (by decide)
section
variable{X:Cx}{W:Wd}{H0 G H:Hp}
def cY(W:Wd)(G H:Hp)(r:PV)(Q:VK):Prop:=∀v G' H',aJ W G H G' H'→Rep W G' r v→Q v H'
theorem cY.at{r:PV}{Q:VK}{v:V}(h:cY W G H r Q)(s:aF G H)(k:Rep W G r v):Q v H:=h v G H (.refl s) k
theorem cY.tup{xs:List PV}{Q:VK}{vs:List V}{p:Addr}(h:cY W G H (.tup xs) Q)(s:aF G H)(k:ak W G xs vs)(hp:H p=none):Q (.ref p) (upd H p (.tup vs)):=
 h _ _ _ (.new s hp) (.t (.inl av) (ak.same (bD (s.free hp)) xs k))
theorem cY.lst{xs:List PV}{Q:VK}{vs:List V}{p:Addr}(h:cY W G H (.lst xs) Q)(s:aF G H)(k:ak W G xs vs)(hp:H p=none):Q (.ref p) (upd H p (.lst vs)):=
 h _ _ _ (.new s hp) (.l (.inl (.inl av)) (ak.same (bD (s.free hp)) xs k))
theorem gU{f:PV→PV→Bool}:∀{xs ys:List PV},xs.length≠ys.length→eqs f xs ys=false
 |[],[],h=>absurd rfl h
 |_::xs,_::ys,h=>by simp only [eqs];rw [gU (xs:=xs) (ys:=ys) (fun z=>h (by simp [z]))];simp
 |[],_::_,_=>rfl
 |_::_,[],_=>rfl
theorem gQ{f:PV→PV→Bool}:∀{xs ys:List PV},xs.length=ys.length→eqs f xs ys=(List.range xs.length).all fun j=>f (xs.getD j .non) (ys.getD j .non)
 |[],[],_=>rfl
 |x::xs,y::ys,h=>by
  simp only [eqs];rw [gQ (xs:=xs) (ys:=ys) (by simpa using h),List.length_cons,List.range_succ_eq_map,List.all_cons,List.all_map]
  rfl
 |[],_::_,h=>by simp at h
 |_::_,[],h=>by simp at h
theorem iC{f:PV→PV→Bool}:∀{xs ys:List PV},((List.range (min xs.length ys.length)).all (fun j=>f (xs.getD j .non) (ys.getD j .non))&&xs.length==ys.length)=eqs f xs ys:=fun{xs ys}=>by
 by_cases h:xs.length=ys.length
 ·rw [gQ h,h,Nat.min_self,beq_self_eq_true,Bool.and_true]
 ·rw [gU h,beq_eq_false_iff_ne.mpr h,Bool.and_false]
theorem oX{f:PV→PV→Bool}:∀{xs ys:List PV},xs.length=ys.length→(∀(j:Nat) x y,xs[j]?=some x→ys[j]?=some y→f x y=true)→eqs f xs ys=true
 |[],[],_,_=>rfl
 |x::xs,y::ys,h,k=>by
  simp only [eqs];rw [k 0 x y rfl rfl,oX (xs:=xs) (ys:=ys) (by simpa using h) fun j a b ha hb=>k (j+1) a b (by simpa using ha) (by simpa using hb)]
  rfl
 |[],_::_,h,_=>by simp at h
 |_::_,[],h,_=>by simp at h
theorem dW(hK:W.K=X.K){a:Addr}{vs:List V}(h:LsR W.K H a vs):gk X.K H a vs:=by
 rw [hK] at h;rcases h with h|⟨aD,n,h1,h2,h3⟩
 ·exact .inl h
 ·exact .inr ⟨_,aD,n,h1,rfl,rfl,rfl,h2,h3⟩
theorem gZ{pins:List (Addr×Obj)}{σ:St}{s:Shared}(I:Inv X pins σ H s){a:Addr}{vs us:List V}(h1:eJ X.K H a vs)(h2:gk X.K H a us):False:=by
 obtain⟨aD,_,⟨o,e,hc,_⟩,_⟩:=I.tuple h1
 obtain⟨aK,_,⟨o2,n,e2,hc2,_⟩,_⟩:=I.list h2
 rw [e] at e2;cases e2;rw [hc] at hc2;exact absurd hc2 (by decide)
theorem tR{pins:List (Addr×Obj)}{σ:St}{s:Shared}(I:Inv X pins σ H s)(hK:W.K=X.K)(sg:aF G H):∀(n:Nat) {p q:PV} {v:V},plain n p=true→plain n q=true→Top W H0 G H p v→Top W H0 G H q v→ir n p q=true:=by
 intro n
 induction n with
 |zero=>
  intro p q v hp hq h1 h2;cases p with
  |non=>
   cases h1.non;cases q with
   |non=>cases h2.non;rfl
   |bl y=>cases h2.bl
   |int y=>cases h2.int
   |str y=>cases h2.str
   |exc c=>exact absurd hq zzf
   |dct a b=>exact absurd hq zzf
   |tup xs=>exact absurd hq zzf
   |lst xs=>exact absurd hq zzf
  |bl x=>
   cases h1.bl;cases q with
   |non=>cases h2.non
   |bl y=>cases h2.bl;exact beq_self_eq_true _
   |int y=>cases h2.int
   |str y=>cases h2.str
   |exc c=>exact absurd hq zzf
   |dct a b=>exact absurd hq zzf
   |tup xs=>exact absurd hq zzf
   |lst xs=>exact absurd hq zzf
  |int x=>
   cases h1.int;cases q with
   |non=>cases h2.non
   |bl y=>cases h2.bl
   |int y=>cases h2.int;exact beq_self_eq_true _
   |str y=>cases h2.str
   |exc c=>exact absurd hq zzf
   |dct a b=>exact absurd hq zzf
   |tup xs=>exact absurd hq zzf
   |lst xs=>exact absurd hq zzf
  |str x=>
   cases h1.str;cases q with
   |non=>cases h2.non
   |bl y=>cases h2.bl
   |int y=>cases h2.int
   |str y=>cases h2.str;exact beq_self_eq_true _
   |exc c=>exact absurd hq zzf
   |dct a b=>exact absurd hq zzf
   |tup xs=>exact absurd hq zzf
   |lst xs=>exact absurd hq zzf
  |exc c=>exact absurd hp zzf
  |dct a b=>exact absurd hp zzf
  |tup xs=>exact absurd hp zzf
  |lst xs=>exact absurd hp zzf
 |succ n ih=>
  intro p q v hp hq h1 h2;have el:∀{xs ys:List PV} {vs:List V},xs.all (plain n)=true→ys.all (plain n)=true→ak W G xs vs→ak W G ys vs→eqs (ir n) xs ys=true:=fun{xs ys vs} a1 a2 l1 l2=>
   oX (by rw [←l1.length,l2.length]) fun j x y ex ey=>by
    obtain⟨u,eu,ku⟩:=l1.getP ex
    obtain⟨y',ey',ky⟩:=l2.get eu
    rw [ey] at ey';cases ey';exact ih (List.all_eq_true.mp a1 _ (List.mem_of_getElem? ex)) (List.all_eq_true.mp a2 _ (List.mem_of_getElem? ey)) (.inl ku) (.inl ky)
  cases p with
  |exc c=>exact absurd hp zzf
  |dct a b=>exact absurd hp zzf
  |tup xs=>
   obtain⟨a,vs,rfl,sq,l⟩:=h1.tup sg
   rw [hK] at sq;cases q with
   |exc c=>exact absurd hq zzf
   |dct a b=>exact absurd hq zzf
   |non=>cases h2.non
   |bl b=>cases h2.bl
   |int b=>cases h2.int
   |str b=>cases h2.str
   |lst ys=>
    obtain⟨b,us,e,sq20,l2⟩:=h2.lst sg
    have bu:=dW hK sq20
    cases e;exact(gZ I sq bu).elim
   |tup ys=>
    obtain⟨b,us,e,bu,l2⟩:=h2.tup sg
    rw [hK] at bu;cases e;cases I.tuple_inj sq bu;exact el hp hq l l2
  |lst xs=>
   obtain⟨a,vs,rfl,sq0,l⟩:=h1.lst sg
   have sq:=dW hK sq0
   cases q with
   |exc c=>exact absurd hq zzf
   |dct a b=>exact absurd hq zzf
   |non=>cases h2.non
   |bl b=>cases h2.bl
   |int b=>cases h2.int
   |str b=>cases h2.str
   |tup ys=>
    obtain⟨b,us,e,bu,l2⟩:=h2.tup sg
    rw [hK] at bu;cases e;exact(gZ I bu sq).elim
   |lst ys=>
    obtain⟨b,us,e,sq20,l2⟩:=h2.lst sg
    have bu:=dW hK sq20
    cases e;cases I.list_inj sq bu;exact el hp hq l l2
  |non=>
   cases h1.non;cases q with
   |non=>cases h2.non;rfl
   |bl y=>cases h2.bl
   |int y=>cases h2.int
   |str y=>cases h2.str
   |tup ys=>obtain⟨b,us,e,_⟩:=h2.tup sg;cases e
   |lst ys=>obtain⟨b,us,e,_⟩:=h2.lst sg;cases e
   |exc c=>exact absurd hq zzf
   |dct a b=>exact absurd hq zzf
  |bl x=>
   cases h1.bl;cases q with
   |non=>cases h2.non
   |bl y=>cases h2.bl;exact beq_self_eq_true _
   |int y=>cases h2.int
   |str y=>cases h2.str
   |tup ys=>obtain⟨b,us,e,_⟩:=h2.tup sg;cases e
   |lst ys=>obtain⟨b,us,e,_⟩:=h2.lst sg;cases e
   |exc c=>exact absurd hq zzf
   |dct a b=>exact absurd hq zzf
  |int x=>
   cases h1.int;cases q with
   |non=>cases h2.non
   |bl y=>cases h2.bl
   |int y=>cases h2.int;exact beq_self_eq_true _
   |str y=>cases h2.str
   |tup ys=>obtain⟨b,us,e,_⟩:=h2.tup sg;cases e
   |lst ys=>obtain⟨b,us,e,_⟩:=h2.lst sg;cases e
   |exc c=>exact absurd hq zzf
   |dct a b=>exact absurd hq zzf
  |str x=>
   cases h1.str;cases q with
   |non=>cases h2.non
   |bl y=>cases h2.bl
   |int y=>cases h2.int
   |str y=>cases h2.str;exact beq_self_eq_true _
   |tup ys=>obtain⟨b,us,e,_⟩:=h2.tup sg;cases e
   |lst ys=>obtain⟨b,us,e,_⟩:=h2.lst sg;cases e
   |exc c=>exact absurd hq zzf
   |dct a b=>exact absurd hq zzf
theorem il{pins:List (Addr×Obj)}{σ:St}{s:Shared}{A:Around}{p q:PV}{v u:V}{v' u':Value}(hp:plain 0 p=true)(hq:plain 0 q=true)(h1:Top W H0 G H p v)(h2:Top W H0 G H q u)(r1:RelV v v')(r2:RelV u u')(n:Nat):SeqAt.EqAt A s v' u' (ir n p q):=by
 cases p with
 |non=>
  cases h1.non;cases r1;cases q with
  |non=>cases h2.non;cases r2;cases n<;>exact SeqAt.EqAt.same _
  |bl y=>cases h2.bl;cases r2;cases n<;>exact SeqAt.EqAt.none_bool _
  |int y=>cases h2.int;obtain⟨t2,rfl⟩:=r2;cases n<;>exact SeqAt.EqAt.none_int _ _
  |str y=>cases h2.str;obtain⟨t2,rfl⟩:=r2;cases n<;>exact SeqAt.EqAt.none_str _ _
  |exc c=>exact absurd hq zzf
  |dct a b=>exact absurd hq zzf
  |tup xs=>exact absurd hq zzf
  |lst xs=>exact absurd hq zzf
 |bl x=>
  cases h1.bl;cases r1;cases q with
  |non=>cases h2.non;cases r2;cases n<;>exact SeqAt.EqAt.bool_none _
  |bl y=>cases h2.bl;cases r2;cases n<;>exact SeqAt.EqAt.bool_bool _ _
  |int y=>cases h2.int;obtain⟨t2,rfl⟩:=r2;cases n<;>exact SeqAt.EqAt.bool_int _ _ _
  |str y=>cases h2.str;obtain⟨t2,rfl⟩:=r2;cases n<;>exact SeqAt.EqAt.bool_str _ _ _
  |exc c=>exact absurd hq zzf
  |dct a b=>exact absurd hq zzf
  |tup xs=>exact absurd hq zzf
  |lst xs=>exact absurd hq zzf
 |int x=>
  cases h1.int;obtain⟨t1,rfl⟩:=r1
  cases q with
  |non=>cases h2.non;cases r2;cases n<;>exact SeqAt.EqAt.int_none _ _
  |bl y=>cases h2.bl;cases r2;cases n<;>exact SeqAt.EqAt.int_bool _ _ _
  |int y=>cases h2.int;obtain⟨t2,rfl⟩:=r2;cases n<;>exact SeqAt.EqAt.int_int _ _ _ _
  |str y=>cases h2.str;obtain⟨t2,rfl⟩:=r2;cases n<;>exact SeqAt.EqAt.int_str _ _ _ _
  |exc c=>exact absurd hq zzf
  |dct a b=>exact absurd hq zzf
  |tup xs=>exact absurd hq zzf
  |lst xs=>exact absurd hq zzf
 |str x=>
  cases h1.str;obtain⟨t1,rfl⟩:=r1
  cases q with
  |non=>cases h2.non;cases r2;cases n<;>exact SeqAt.EqAt.str_none _ _
  |bl y=>cases h2.bl;cases r2;cases n<;>exact SeqAt.EqAt.str_bool _ _ _
  |int y=>cases h2.int;obtain⟨t2,rfl⟩:=r2;cases n<;>exact SeqAt.EqAt.str_int _ _ _ _
  |str y=>cases h2.str;obtain⟨t2,rfl⟩:=r2;cases n<;>exact SeqAt.EqAt.str_str _ _ _ _
  |exc c=>exact absurd hq zzf
  |dct a b=>exact absurd hq zzf
  |tup xs=>exact absurd hq zzf
  |lst xs=>exact absurd hq zzf
 |exc c=>exact absurd hp zzf
 |dct a b=>exact absurd hp zzf
 |tup xs=>exact absurd hp zzf
 |lst xs=>exact absurd hp zzf
theorem xf{pins:List (Addr×Obj)}{σ:St}{s:Shared}(I:Inv X pins σ H s)(hK:W.K=X.K)(sg:aF G H):∀(n:Nat) {A:Around} {p q:PV} {v u:V} {v' u':Value},A.units+(n+1)<cLine→plain n p=true→plain n q=true→Top W H0 G H p v→Top W H0 G H q u→RelV v v'→RelV u u'→
 SeqAt.EqAt A s v' u' (ir n p q):=by
 intro n
 induction n with
 |zero=>
  intro A p q v u v' u' hu hp hq h1 h2 r1 r2;exact il (pins:=pins) (σ:=σ) hp hq h1 h2 r1 r2 0
 |succ n ih=>
  intro A p q v u v' u' hu hp hq h1 h2 r1 r2;have cK:A.units<cLine:=by omega
  have el:∀{xs ys:List PV} {vs us:List V} {aD aK:List Value},xs.all (plain n)=true→ys.all (plain n)=true→ak W G xs vs→ak W G ys us→Vals vs aD→Vals us aK→∀j (h1:j<aD.toArray.size) (h2:j<aK.toArray.size),
   SeqAt.EqAt A.in1 s aD.toArray[j] aK.toArray[j] (ir n (xs.getD j .non) (ys.getD j .non)):=fun{xs ys vs us aD aK} a1 a2 l1 l2 q1 q2 j g1 g2=>by
   obtain⟨x,hx,rx⟩:=iD q1 g1
   obtain⟨y,hy,ry⟩:=iD q2 g2
   obtain⟨px,ex,kx⟩:=l1.get hx
   obtain⟨py,ey,ky⟩:=l2.get hy
   rw [List.getD_eq_getElem?_getD,List.getD_eq_getElem?_getD,ex,ey];exact ih (by show A.units+1+(n+1)<_;omega) (List.all_eq_true.mp a1 _ (List.mem_of_getElem? ex)) (List.all_eq_true.mp a2 _ (List.mem_of_getElem? ey)) (.inl kx) (.inl ky) rx ry
  cases p with
  |exc c=>exact absurd hp zzf
  |dct a b=>exact absurd hp zzf
  |tup xs=>
   have oz:=h1
   obtain⟨a,vs,rfl,sq,l⟩:=h1.tup sg
   rw [hK] at sq;cases r1;obtain⟨aD,q1,z1,_⟩:=I.tuple sq
   have fg:s.heap.IsTuple a aD.toArray:=z1
   cases q with
   |exc c=>exact absurd hq zzf
   |dct a b=>exact absurd hq zzf
   |non=>cases h2.non;cases r2;exact SeqAt.EqAt.tuple_none fg cK
   |bl b=>cases h2.bl;cases r2;exact SeqAt.EqAt.tuple_bool _ fg cK
   |int b=>cases h2.int;obtain⟨t2,rfl⟩:=r2;exact SeqAt.EqAt.tuple_int _ _ fg cK
   |str b=>cases h2.str;obtain⟨t2,rfl⟩:=r2;exact SeqAt.EqAt.tuple_str _ _ fg cK
   |lst ys=>
    obtain⟨b,us,rfl,sq20,l2⟩:=h2.lst sg
    have bu:=dW hK sq20
    cases r2;obtain⟨aK,q2,z2,_⟩:=I.list bu
    exact SeqAt.EqAt.tuple_list fg z2.isList cK
   |tup ys=>
    have qD:=h2
    obtain⟨b,us,rfl,bu,l2⟩:=h2.tup sg
    rw [hK] at bu;cases r2;obtain⟨aK,q2,z2,_⟩:=I.tuple bu
    have m1:aD.length=xs.length:=by rw [←q1.length,l.length]
    have m2:aK.length=ys.length:=by rw [←q2.length,l2.length]
    by_cases jg:a=b
    ·subst jg;rw [tR I hK sg (n+1) hp hq oz qD];exact SeqAt.EqAt.same _
    ·refine SeqAt.EqAt.of_refs jg ?_;have:=SeqAt.RcAt.tuples (e:=fun j=>ir n (xs.getD j .non) (ys.getD j .non)) fg (show s.heap.IsTuple b aK.toArray from z2) cK (el hp hq l l2 q1 q2)
     rw [List.size_toArray,List.size_toArray,m1,m2,iC] at this;exact this
  |lst xs=>
   have oz:=h1
   obtain⟨a,vs,rfl,sq0,l⟩:=h1.lst sg
   have sq:=dW hK sq0
   cases r1;obtain⟨aD,q1,z1,_⟩:=I.list sq
   cases q with
   |exc c=>exact absurd hq zzf
   |dct a b=>exact absurd hq zzf
   |non=>cases h2.non;cases r2;exact SeqAt.EqAt.list_none z1.isList cK
   |bl b=>cases h2.bl;cases r2;exact SeqAt.EqAt.list_bool _ z1.isList cK
   |int b=>cases h2.int;obtain⟨t2,rfl⟩:=r2;exact SeqAt.EqAt.list_int _ _ z1.isList cK
   |str b=>cases h2.str;obtain⟨t2,rfl⟩:=r2;exact SeqAt.EqAt.list_str _ _ z1.isList cK
   |tup ys=>
    obtain⟨b,us,rfl,bu,l2⟩:=h2.tup sg
    rw [hK] at bu;cases r2;obtain⟨aK,q2,z2,_⟩:=I.tuple bu
    exact SeqAt.EqAt.list_tuple z1.isList (show s.heap.IsTuple b aK.toArray from z2) cK
   |lst ys=>
    have qD:=h2
    obtain⟨b,us,rfl,sq20,l2⟩:=h2.lst sg
    have bu:=dW hK sq20
    cases r2;obtain⟨aK,q2,z2,_⟩:=I.list bu
    have m1:aD.length=xs.length:=by rw [←q1.length,l.length]
    have m2:aK.length=ys.length:=by rw [←q2.length,l2.length]
    by_cases jg:a=b
    ·subst jg;rw [tR I hK sg (n+1) hp hq oz qD];exact SeqAt.EqAt.same _
    ·refine SeqAt.EqAt.of_refs jg ?_
     by_cases hl:xs.length=ys.length
     ·have:=SeqAt.RcAt.lists (e:=fun j=>ir n (xs.getD j .non) (ys.getD j .non)) z1.isList z2.isList (by rw [List.size_toArray,List.size_toArray];omega) cK (el hp hq l l2 q1 q2)
      rw [List.size_toArray,m1,←gQ hl] at this;exact this
     ·have:=SeqAt.RcAt.lists_lengths z1.isList z2.isList (by rw [List.size_toArray,List.size_toArray,m1,m2];simp [hl]) cK
      show SeqAt.RcAt _ _ _ _ (eqs (ir n) xs ys)
      rw [gU hl];exact this
  |non=>
   have oz:=h1
   cases h1.non;cases r1;cases q with
   |tup ys=>
    obtain⟨b,us,rfl,bu,l2⟩:=h2.tup sg
    rw [hK] at bu;cases r2;obtain⟨aK,q2,z2,_⟩:=I.tuple bu
    exact SeqAt.EqAt.none_tuple (show s.heap.IsTuple b aK.toArray from z2) cK
   |lst ys=>
    obtain⟨b,us,rfl,sq20,l2⟩:=h2.lst sg
    have bu:=dW hK sq20
    cases r2;obtain⟨aK,q2,z2,_⟩:=I.list bu
    exact SeqAt.EqAt.none_list z2.isList cK
   |exc c=>exact absurd hq zzf
   |dct a b=>exact absurd hq zzf
   |_=>exact il (pins:=pins) (σ:=σ) rfl rfl oz h2 rfl r2 (n+1)
  |bl x=>
   have oz:=h1
   cases h1.bl;cases r1;cases q with
   |tup ys=>
    obtain⟨b,us,rfl,bu,l2⟩:=h2.tup sg
    rw [hK] at bu;cases r2;obtain⟨aK,q2,z2,_⟩:=I.tuple bu
    exact SeqAt.EqAt.bool_tuple _ (show s.heap.IsTuple b aK.toArray from z2) cK
   |lst ys=>
    obtain⟨b,us,rfl,sq20,l2⟩:=h2.lst sg
    have bu:=dW hK sq20
    cases r2;obtain⟨aK,q2,z2,_⟩:=I.list bu
    exact SeqAt.EqAt.bool_list _ z2.isList cK
   |exc c=>exact absurd hq zzf
   |dct a b=>exact absurd hq zzf
   |_=>exact il (pins:=pins) (σ:=σ) rfl rfl oz h2 rfl r2 (n+1)
  |int x=>
   have oz:=h1
   have LJ:=r1
   cases h1.int;obtain⟨t,rfl⟩:=r1
   cases q with
   |tup ys=>
    obtain⟨b,us,rfl,bu,l2⟩:=h2.tup sg
    rw [hK] at bu;cases r2;obtain⟨aK,q2,z2,_⟩:=I.tuple bu
    exact SeqAt.EqAt.int_tuple _ _ (show s.heap.IsTuple b aK.toArray from z2) cK
   |lst ys=>
    obtain⟨b,us,rfl,sq20,l2⟩:=h2.lst sg
    have bu:=dW hK sq20
    cases r2;obtain⟨aK,q2,z2,_⟩:=I.list bu
    exact SeqAt.EqAt.int_list _ _ z2.isList cK
   |exc c=>exact absurd hq zzf
   |dct a b=>exact absurd hq zzf
   |_=>exact il (pins:=pins) (σ:=σ) rfl rfl oz h2 LJ r2 (n+1)
  |str x=>
   have oz:=h1
   have LJ:=r1
   cases h1.str;obtain⟨t,rfl⟩:=r1
   cases q with
   |tup ys=>
    obtain⟨b,us,rfl,bu,l2⟩:=h2.tup sg
    rw [hK] at bu;cases r2;obtain⟨aK,q2,z2,_⟩:=I.tuple bu
    exact SeqAt.EqAt.str_tuple _ _ (show s.heap.IsTuple b aK.toArray from z2) cK
   |lst ys=>
    obtain⟨b,us,rfl,sq20,l2⟩:=h2.lst sg
    have bu:=dW hK sq20
    cases r2;obtain⟨aK,q2,z2,_⟩:=I.list bu
    exact SeqAt.EqAt.str_list _ _ z2.isList cK
   |exc c=>exact absurd hq zzf
   |dct a b=>exact absurd hq zzf
   |_=>exact il (pins:=pins) (σ:=σ) rfl rfl oz h2 LJ r2 (n+1)
end
end Ci
namespace Ci
open PySem L2
section
variable{X:Cx}{W:Wd}{H0 G H:Hp}
theorem Hu{pins:List (Addr×Obj)}{σ:St}{s:Shared}(I:Inv X pins σ H s)(hK:W.K=X.K)(sg:aF G H)(n:Nat){A:Around}{p q:PV}{v u:V}{v' u':Value}(hu:A.units+(n+2)<cLine)(hp:plain (n+1) p=true)(hq:plain (n+1) q=true)(h1:Top W H0 G H p v)(h2:Top W H0 G H q u)(r1:RelV v v')(r2:RelV u u'):
 SeqAt.RcAt A s v' u' (ir (n+1) p q):=by
 have cK:A.units<cLine:=by omega
 have el:∀{xs ys:List PV} {vs us:List V} {aD aK:List Value},xs.all (plain n)=true→ys.all (plain n)=true→ak W G xs vs→ak W G ys us→Vals vs aD→Vals us aK→∀j (h1:j<aD.toArray.size) (h2:j<aK.toArray.size),
  SeqAt.EqAt A.in1 s aD.toArray[j] aK.toArray[j] (ir n (xs.getD j .non) (ys.getD j .non)):=fun{xs ys vs us aD aK} a1 a2 l1 l2 q1 q2 j g1 g2=>by
  obtain⟨x,hx,rx⟩:=iD q1 g1
  obtain⟨y,hy,ry⟩:=iD q2 g2
  obtain⟨px,ex,kx⟩:=l1.get hx
  obtain⟨py,ey,ky⟩:=l2.get hy
  rw [List.getD_eq_getElem?_getD,List.getD_eq_getElem?_getD,ex,ey];exact xf (H0:=H0) I hK sg n (by show A.units+1+(n+1)<_;omega) (List.all_eq_true.mp a1 _ (List.mem_of_getElem? ex)) (List.all_eq_true.mp a2 _ (List.mem_of_getElem? ey)) (.inl kx) (.inl ky) rx ry
 cases p with
 |non=>
  cases h1.non;cases r1;cases q with
  |non=>cases h2.non;cases r2;exact SeqAt.RcAt.none_none
  |bl y=>cases h2.bl;cases r2;exact SeqAt.RcAt.none_bool _
  |int y=>cases h2.int;obtain⟨t2,rfl⟩:=r2;exact SeqAt.RcAt.none_int _ _
  |str y=>cases h2.str;obtain⟨t2,rfl⟩:=r2;exact SeqAt.RcAt.none_str _ _
  |tup ys=>
   obtain⟨b,us,rfl,bu,l2⟩:=h2.tup sg
   rw [hK] at bu;cases r2;obtain⟨aK,q2,z2,_⟩:=I.tuple bu
   exact SeqAt.RcAt.none_tuple (show s.heap.IsTuple b aK.toArray from z2) cK
  |lst ys=>
   obtain⟨b,us,rfl,bu,l2⟩:=h2.lst sg
   cases r2;obtain⟨aK,q2,z2,_⟩:=I.list (dW hK bu)
   exact SeqAt.RcAt.none_list z2.isList cK
  |exc c=>exact absurd hq zzf
  |dct a b=>exact absurd hq zzf
 |bl x=>
  cases h1.bl;cases r1;cases q with
  |non=>cases h2.non;cases r2;exact SeqAt.RcAt.bool_none _
  |bl y=>cases h2.bl;cases r2;exact SeqAt.RcAt.bool_bool _ _
  |int y=>cases h2.int;obtain⟨t2,rfl⟩:=r2;exact SeqAt.RcAt.bool_int _ _ _
  |str y=>cases h2.str;obtain⟨t2,rfl⟩:=r2;exact SeqAt.RcAt.bool_str _ _ _
  |tup ys=>
   obtain⟨b,us,rfl,bu,l2⟩:=h2.tup sg
   rw [hK] at bu;cases r2;obtain⟨aK,q2,z2,_⟩:=I.tuple bu
   exact SeqAt.RcAt.bool_tuple _ (show s.heap.IsTuple b aK.toArray from z2) cK
  |lst ys=>
   obtain⟨b,us,rfl,bu,l2⟩:=h2.lst sg
   cases r2;obtain⟨aK,q2,z2,_⟩:=I.list (dW hK bu)
   exact SeqAt.RcAt.bool_list _ z2.isList cK
  |exc c=>exact absurd hq zzf
  |dct a b=>exact absurd hq zzf
 |int x=>
  cases h1.int;obtain⟨t1,rfl⟩:=r1
  cases q with
  |non=>cases h2.non;cases r2;exact SeqAt.RcAt.int_none _ _
  |bl y=>cases h2.bl;cases r2;exact SeqAt.RcAt.int_bool _ _ _
  |int y=>cases h2.int;obtain⟨t2,rfl⟩:=r2;exact SeqAt.RcAt.int_int _ _ _ _
  |str y=>cases h2.str;obtain⟨t2,rfl⟩:=r2;exact SeqAt.RcAt.int_str _ _ _ _
  |tup ys=>
   obtain⟨b,us,rfl,bu,l2⟩:=h2.tup sg
   rw [hK] at bu;cases r2;obtain⟨aK,q2,z2,_⟩:=I.tuple bu
   exact SeqAt.RcAt.int_tuple _ _ (show s.heap.IsTuple b aK.toArray from z2) cK
  |lst ys=>
   obtain⟨b,us,rfl,bu,l2⟩:=h2.lst sg
   cases r2;obtain⟨aK,q2,z2,_⟩:=I.list (dW hK bu)
   exact SeqAt.RcAt.int_list _ _ z2.isList cK
  |exc c=>exact absurd hq zzf
  |dct a b=>exact absurd hq zzf
 |str x=>
  cases h1.str;obtain⟨t1,rfl⟩:=r1
  cases q with
  |non=>cases h2.non;cases r2;exact SeqAt.RcAt.str_none _ _
  |bl y=>cases h2.bl;cases r2;exact SeqAt.RcAt.str_bool _ _ _
  |int y=>cases h2.int;obtain⟨t2,rfl⟩:=r2;exact SeqAt.RcAt.str_int _ _ _ _
  |str y=>cases h2.str;obtain⟨t2,rfl⟩:=r2;exact SeqAt.RcAt.str_str _ _ _ _
  |tup ys=>
   obtain⟨b,us,rfl,bu,l2⟩:=h2.tup sg
   rw [hK] at bu;cases r2;obtain⟨aK,q2,z2,_⟩:=I.tuple bu
   exact SeqAt.RcAt.str_tuple _ _ (show s.heap.IsTuple b aK.toArray from z2) cK
  |lst ys=>
   obtain⟨b,us,rfl,bu,l2⟩:=h2.lst sg
   cases r2;obtain⟨aK,q2,z2,_⟩:=I.list (dW hK bu)
   exact SeqAt.RcAt.str_list _ _ z2.isList cK
  |exc c=>exact absurd hq zzf
  |dct a b=>exact absurd hq zzf
 |tup xs=>
  obtain⟨a,vs,rfl,sq,l⟩:=h1.tup sg
  cases r1;rw [hK] at sq;obtain⟨aD,q1,z1,_⟩:=I.tuple sq
  have fg:s.heap.IsTuple a aD.toArray:=z1
  cases q with
  |non=>cases h2.non;cases r2;exact SeqAt.RcAt.tuple_none fg cK
  |bl y=>cases h2.bl;cases r2;exact SeqAt.RcAt.tuple_bool _ fg cK
  |int y=>cases h2.int;obtain⟨t2,rfl⟩:=r2;exact SeqAt.RcAt.tuple_int _ _ fg cK
  |str y=>cases h2.str;obtain⟨t2,rfl⟩:=r2;exact SeqAt.RcAt.tuple_str _ _ fg cK
  |exc c=>exact absurd hq zzf
  |dct a b=>exact absurd hq zzf
  |lst ys=>
   obtain⟨b,us,rfl,bu,l2⟩:=h2.lst sg
   cases r2;obtain⟨aK,q2,z2,_⟩:=I.list (dW hK bu)
   have m5:=z2.isList
   exact SeqAt.RcAt.tuple_list fg m5 cK
  |tup ys=>
   obtain⟨b,us,rfl,bu,l2⟩:=h2.tup sg
   cases r2;rw [hK] at bu;obtain⟨aK,q2,z2,_⟩:=I.tuple bu
   have m5:s.heap.IsTuple b aK.toArray:=z2
   have m1:aD.length=xs.length:=by rw [←q1.length,l.length]
   have m2:aK.length=ys.length:=by rw [←q2.length,l2.length]
   have:=SeqAt.RcAt.tuples (e:=fun j=>ir n (xs.getD j .non) (ys.getD j .non)) fg m5 cK (el hp hq l l2 q1 q2)
   rw [List.size_toArray,List.size_toArray,m1,m2,iC] at this;exact this
 |lst xs=>
  obtain⟨a,vs,rfl,sq,l⟩:=h1.lst sg
  cases r1;obtain⟨aD,q1,z1,_⟩:=I.list (dW hK sq)
  have fg:=z1.isList
  cases q with
  |non=>cases h2.non;cases r2;exact SeqAt.RcAt.list_none fg cK
  |bl y=>cases h2.bl;cases r2;exact SeqAt.RcAt.list_bool _ fg cK
  |int y=>cases h2.int;obtain⟨t2,rfl⟩:=r2;exact SeqAt.RcAt.list_int _ _ fg cK
  |str y=>cases h2.str;obtain⟨t2,rfl⟩:=r2;exact SeqAt.RcAt.list_str _ _ fg cK
  |exc c=>exact absurd hq zzf
  |dct a b=>exact absurd hq zzf
  |tup ys=>
   obtain⟨b,us,rfl,bu,l2⟩:=h2.tup sg
   cases r2;rw [hK] at bu;obtain⟨aK,q2,z2,_⟩:=I.tuple bu
   have m5:s.heap.IsTuple b aK.toArray:=z2
   exact SeqAt.RcAt.list_tuple fg m5 cK
  |lst ys=>
   obtain⟨b,us,rfl,bu,l2⟩:=h2.lst sg
   cases r2;obtain⟨aK,q2,z2,_⟩:=I.list (dW hK bu)
   have m5:=z2.isList
   have m1:aD.length=xs.length:=by rw [←q1.length,l.length]
   have m2:aK.length=ys.length:=by rw [←q2.length,l2.length]
   by_cases hl:xs.length=ys.length
   ·have:=SeqAt.RcAt.lists (e:=fun j=>ir n (xs.getD j .non) (ys.getD j .non)) fg m5 (by rw [List.size_toArray,List.size_toArray];omega) cK (el hp hq l l2 q1 q2)
    rw [List.size_toArray,m1,←gQ hl] at this;exact this
   ·have:=SeqAt.RcAt.lists_lengths fg m5 (by rw [List.size_toArray,List.size_toArray,m1,m2];simp [hl]) cK
    show SeqAt.RcAt _ _ _ _ (eqs (ir n) xs ys)
    rw [gU hl];exact this
 |exc c=>exact absurd hp zzf
 |dct a b=>exact absurd hp zzf
theorem Ap{pins:List (Addr×Obj)}{σ:St}{s:Shared}(I:Inv X pins σ H s)(hK:W.K=X.K)(sg:aF G H)(n:Nat){A:Around}{p q:PV}{v u:V}{v' u':Value}(hu:A.units+(n+2)<cLine)(hp:plain (n+1) p=true)(hq:plain (n+1) q=true)(h1:Top W H0 G H p v)(h2:Top W H0 G H q u)(r1:RelV v v')(r2:RelV u u'):
 SeqAt.RcNeAt A s v' u' (!ir (n+1) p q):=by
 have cK:A.units<cLine:=by omega
 have el:∀{xs ys:List PV} {vs us:List V} {aD aK:List Value},xs.all (plain n)=true→ys.all (plain n)=true→ak W G xs vs→ak W G ys us→Vals vs aD→Vals us aK→∀j (h1:j<aD.toArray.size) (h2:j<aK.toArray.size),
  SeqAt.EqAt A.in1 s aD.toArray[j] aK.toArray[j] (ir n (xs.getD j .non) (ys.getD j .non)):=fun{xs ys vs us aD aK} a1 a2 l1 l2 q1 q2 j g1 g2=>by
  obtain⟨x,hx,rx⟩:=iD q1 g1
  obtain⟨y,hy,ry⟩:=iD q2 g2
  obtain⟨px,ex,kx⟩:=l1.get hx
  obtain⟨py,ey,ky⟩:=l2.get hy
  rw [List.getD_eq_getElem?_getD,List.getD_eq_getElem?_getD,ex,ey];exact xf (H0:=H0) I hK sg n (by show A.units+1+(n+1)<_;omega) (List.all_eq_true.mp a1 _ (List.mem_of_getElem? ex)) (List.all_eq_true.mp a2 _ (List.mem_of_getElem? ey)) (.inl kx) (.inl ky) rx ry
 cases p with
 |non=>
  cases h1.non;cases r1;cases q with
  |non=>cases h2.non;cases r2;exact SeqAt.RcNeAt.none_none
  |bl y=>cases h2.bl;cases r2;exact SeqAt.RcNeAt.none_bool _
  |int y=>cases h2.int;obtain⟨t2,rfl⟩:=r2;exact SeqAt.RcNeAt.none_int _ _
  |str y=>cases h2.str;obtain⟨t2,rfl⟩:=r2;exact SeqAt.RcNeAt.none_str _ _
  |tup ys=>
   obtain⟨b,us,rfl,bu,l2⟩:=h2.tup sg
   rw [hK] at bu;cases r2;obtain⟨aK,q2,z2,_⟩:=I.tuple bu
   exact SeqAt.RcNeAt.none_tuple (show s.heap.IsTuple b aK.toArray from z2) cK
  |lst ys=>
   obtain⟨b,us,rfl,bu,l2⟩:=h2.lst sg
   cases r2;obtain⟨aK,q2,z2,_⟩:=I.list (dW hK bu)
   exact SeqAt.RcNeAt.none_list z2.isList cK
  |exc c=>exact absurd hq zzf
  |dct a b=>exact absurd hq zzf
 |bl x=>
  cases h1.bl;cases r1;cases q with
  |non=>cases h2.non;cases r2;exact SeqAt.RcNeAt.bool_none _
  |bl y=>cases h2.bl;cases r2;exact SeqAt.RcNeAt.bool_bool _ _
  |int y=>cases h2.int;obtain⟨t2,rfl⟩:=r2;exact SeqAt.RcNeAt.bool_int _ _ _
  |str y=>cases h2.str;obtain⟨t2,rfl⟩:=r2;exact SeqAt.RcNeAt.bool_str _ _ _
  |tup ys=>
   obtain⟨b,us,rfl,bu,l2⟩:=h2.tup sg
   rw [hK] at bu;cases r2;obtain⟨aK,q2,z2,_⟩:=I.tuple bu
   exact SeqAt.RcNeAt.bool_tuple _ (show s.heap.IsTuple b aK.toArray from z2) cK
  |lst ys=>
   obtain⟨b,us,rfl,bu,l2⟩:=h2.lst sg
   cases r2;obtain⟨aK,q2,z2,_⟩:=I.list (dW hK bu)
   exact SeqAt.RcNeAt.bool_list _ z2.isList cK
  |exc c=>exact absurd hq zzf
  |dct a b=>exact absurd hq zzf
 |int x=>
  cases h1.int;obtain⟨t1,rfl⟩:=r1
  cases q with
  |non=>cases h2.non;cases r2;exact SeqAt.RcNeAt.int_none _ _
  |bl y=>cases h2.bl;cases r2;exact SeqAt.RcNeAt.int_bool _ _ _
  |int y=>cases h2.int;obtain⟨t2,rfl⟩:=r2;exact SeqAt.RcNeAt.int_int _ _ _ _
  |str y=>cases h2.str;obtain⟨t2,rfl⟩:=r2;exact SeqAt.RcNeAt.int_str _ _ _ _
  |tup ys=>
   obtain⟨b,us,rfl,bu,l2⟩:=h2.tup sg
   rw [hK] at bu;cases r2;obtain⟨aK,q2,z2,_⟩:=I.tuple bu
   exact SeqAt.RcNeAt.int_tuple _ _ (show s.heap.IsTuple b aK.toArray from z2) cK
  |lst ys=>
   obtain⟨b,us,rfl,bu,l2⟩:=h2.lst sg
   cases r2;obtain⟨aK,q2,z2,_⟩:=I.list (dW hK bu)
   exact SeqAt.RcNeAt.int_list _ _ z2.isList cK
  |exc c=>exact absurd hq zzf
  |dct a b=>exact absurd hq zzf
 |str x=>
  cases h1.str;obtain⟨t1,rfl⟩:=r1
  cases q with
  |non=>cases h2.non;cases r2;exact SeqAt.RcNeAt.str_none _ _
  |bl y=>cases h2.bl;cases r2;exact SeqAt.RcNeAt.str_bool _ _ _
  |int y=>cases h2.int;obtain⟨t2,rfl⟩:=r2;exact SeqAt.RcNeAt.str_int _ _ _ _
  |str y=>cases h2.str;obtain⟨t2,rfl⟩:=r2;exact SeqAt.RcNeAt.str_str _ _ _ _
  |tup ys=>
   obtain⟨b,us,rfl,bu,l2⟩:=h2.tup sg
   rw [hK] at bu;cases r2;obtain⟨aK,q2,z2,_⟩:=I.tuple bu
   exact SeqAt.RcNeAt.str_tuple _ _ (show s.heap.IsTuple b aK.toArray from z2) cK
  |lst ys=>
   obtain⟨b,us,rfl,bu,l2⟩:=h2.lst sg
   cases r2;obtain⟨aK,q2,z2,_⟩:=I.list (dW hK bu)
   exact SeqAt.RcNeAt.str_list _ _ z2.isList cK
  |exc c=>exact absurd hq zzf
  |dct a b=>exact absurd hq zzf
 |tup xs=>
  obtain⟨a,vs,rfl,sq,l⟩:=h1.tup sg
  cases r1;rw [hK] at sq;obtain⟨aD,q1,z1,_⟩:=I.tuple sq
  have fg:s.heap.IsTuple a aD.toArray:=z1
  cases q with
  |non=>cases h2.non;cases r2;exact SeqAt.RcNeAt.tuple_none fg cK
  |bl y=>cases h2.bl;cases r2;exact SeqAt.RcNeAt.tuple_bool _ fg cK
  |int y=>cases h2.int;obtain⟨t2,rfl⟩:=r2;exact SeqAt.RcNeAt.tuple_int _ _ fg cK
  |str y=>cases h2.str;obtain⟨t2,rfl⟩:=r2;exact SeqAt.RcNeAt.tuple_str _ _ fg cK
  |exc c=>exact absurd hq zzf
  |dct a b=>exact absurd hq zzf
  |lst ys=>
   obtain⟨b,us,rfl,bu,l2⟩:=h2.lst sg
   cases r2;obtain⟨aK,q2,z2,_⟩:=I.list (dW hK bu)
   have m5:=z2.isList
   exact SeqAt.RcNeAt.tuple_list fg m5 cK
  |tup ys=>
   obtain⟨b,us,rfl,bu,l2⟩:=h2.tup sg
   cases r2;rw [hK] at bu;obtain⟨aK,q2,z2,_⟩:=I.tuple bu
   have m5:s.heap.IsTuple b aK.toArray:=z2
   have m1:aD.length=xs.length:=by rw [←q1.length,l.length]
   have m2:aK.length=ys.length:=by rw [←q2.length,l2.length]
   have:=SeqAt.RcNeAt.tuples (e:=fun j=>ir n (xs.getD j .non) (ys.getD j .non)) fg m5 cK (el hp hq l l2 q1 q2)
   rw [List.size_toArray,List.size_toArray,m1,m2,iC] at this;exact this
 |lst xs=>
  obtain⟨a,vs,rfl,sq,l⟩:=h1.lst sg
  cases r1;obtain⟨aD,q1,z1,_⟩:=I.list (dW hK sq)
  have fg:=z1.isList
  cases q with
  |non=>cases h2.non;cases r2;exact SeqAt.RcNeAt.list_none fg cK
  |bl y=>cases h2.bl;cases r2;exact SeqAt.RcNeAt.list_bool _ fg cK
  |int y=>cases h2.int;obtain⟨t2,rfl⟩:=r2;exact SeqAt.RcNeAt.list_int _ _ fg cK
  |str y=>cases h2.str;obtain⟨t2,rfl⟩:=r2;exact SeqAt.RcNeAt.list_str _ _ fg cK
  |exc c=>exact absurd hq zzf
  |dct a b=>exact absurd hq zzf
  |tup ys=>
   obtain⟨b,us,rfl,bu,l2⟩:=h2.tup sg
   cases r2;rw [hK] at bu;obtain⟨aK,q2,z2,_⟩:=I.tuple bu
   have m5:s.heap.IsTuple b aK.toArray:=z2
   exact SeqAt.RcNeAt.list_tuple fg m5 cK
  |lst ys=>
   obtain⟨b,us,rfl,bu,l2⟩:=h2.lst sg
   cases r2;obtain⟨aK,q2,z2,_⟩:=I.list (dW hK bu)
   have m5:=z2.isList
   have m1:aD.length=xs.length:=by rw [←q1.length,l.length]
   have m2:aK.length=ys.length:=by rw [←q2.length,l2.length]
   by_cases hl:xs.length=ys.length
   ·have:=SeqAt.RcNeAt.lists (e:=fun j=>ir n (xs.getD j .non) (ys.getD j .non)) fg m5 (by rw [List.size_toArray,List.size_toArray];omega) cK (el hp hq l l2 q1 q2)
    rw [List.size_toArray,m1,←gQ hl] at this;exact this
   ·have:=SeqAt.RcNeAt.lists_lengths fg m5 (by rw [List.size_toArray,List.size_toArray,m1,m2];simp [hl]) cK
    show SeqAt.RcNeAt _ _ _ _ (!eqs (ir n) xs ys)
    rw [gU hl];exact this
 |exc c=>exact absurd hp zzf
 |dct a b=>exact absurd hp zzf
end
end Ci
namespace Ci
open PySem L2
section
variable{X:Cx}{W:Wd}
theorem Hx(hK:W.K=X.K){pins:List (Addr×Obj)}{σ:St}{H:Hp}{s:Shared}{a:Addr}{xs:List V}(I:Inv X pins σ H s)(h:LsR W.K H a xs):∃(aD:List Value) (n:Nat),Vals xs aD∧xs.length=aD.length∧xs.length≤sizeLine∧s.heap.get? a=some {cls:=.type "list",data:=.seq aD.toArray n}:=by
 rw [hK] at h;rcases h with h|⟨aD,n,h1,h2,h3⟩
 ·obtain⟨z,aD,n,r,e⟩:=h.ok I.hok
  exact⟨aD,n,r,r.length,z,e⟩
 ·refine⟨aD.toList,n,h3,h3.length,?_,by simpa using I.kIn a _ h1⟩;rw [h3.length,Array.length_toList];exact h2
def LI:Gj→Operator
 |.add=>.Add|.sub=>.Sub|.mul=>.Mult|.mod=>.Mod|.fdiv=>.FloorDiv
noncomputable def qC(W:Wd)(f:PV→PV→Res PV):R2:=fun x y H Q=>∃H0 G p q r,aF G H∧Top W H0 G H p x∧Top W H0 G H q y∧f p q=.ok r∧cY W G H r Q
theorem DL(hK:W.K=X.K)(o:Gj):gj X (binaryOp (LI o)) (qC W (binOp o)):=by
 intro pins s σ H x y v u Q I rx ry h;obtain⟨H0,G,p,q,r,sg,t1,t2,e,wq⟩:=h
 unfold binOp at e;split at e
 ·cases e;exact Dw pins s σ H x y v u Q I rx ry ⟨_,_,t1.int,t2.int,wq.at sg .i⟩
 ·split at e
  ·rename_i hl;cases e;exact rR pins s σ H x y v u Q I rx ry ⟨_,_,t1.str,t2.str,jy hl,wq.at sg .s⟩
  ·cases e
 ·cases e;exact EY pins s σ H x y v u Q I rx ry ⟨_,_,t1.int,t2.int,wq.at sg .i⟩
 ·split at e
  ·rename_i hc;cases e;refine EI pins s σ H x y v u Q I rx ry ⟨_,_,t1.int,t2.int,?_,wq.at sg .i⟩;rw [Bool.or_eq_true] at hc;unfold aU at hc;simp only [zza,decide_eq_true_eq] at hc;exact hc
  ·cases e
 ·split at e
  ·rename_i hc;cases e;exact FG pins s σ H x y v u Q I rx ry ⟨_,_,t1.int,t2.int,hc,wq.at sg .i⟩
  ·cases e
 ·split at e
  ·rename_i hc;cases e;exact Bt pins s σ H x y v u Q I rx ry ⟨_,_,t1.int,t2.int,hc,wq.at sg .i⟩
  ·cases e
 ·cases e
theorem AJ:Jq X (unaryOp .USub) (fun x H Q=>∃(H0 G:Hp) (i:Int),aF G H∧Top W H0 G H (.int i) x∧cY W G H (.int (-i)) Q):=by
 intro pins s σ H x v Q I rx h;obtain⟨H0,G,i,sg,t,wq⟩:=h
 exact Fj pins s σ H x v Q I rx ⟨i,t.int,wq.at sg .i⟩
def oH:wH→CmpOp
 |.eq=>.Eq|.ne=>.NotEq|.lt=>.Lt|.le=>.LtE|.gt=>.Gt|.is=>.Is|.isn=>.IsNot|.in_=>.In|.nin=>.NotIn|.neD=>.NotEq
theorem mG{pins:List (Addr×Obj)}{σ:St}{H G:Hp}{s:Shared}{Q:VK}{k:Bool}(I:Inv X pins σ H s)(sg:aF G H)(wq:cY W G H (.bl k) Q):EP X pins σ Q (.bool k) s:=⟨.bl k,H,I,rfl,wq.at sg .b⟩
theorem FJ(hK:W.K=X.K)(hu:X.A.units+64<cLine):gj X (compareOp .Eq) (qC W fG):=by
 intro pins s σ H x y v u Q I rx ry h;obtain⟨H0,G,p,q,r,sg,t1,t2,e,wq⟩:=h
 unfold fG at e;split at e
 ·rename_i hc;rw [zza] at hc;cases e;exact Hu I hK sg 8 (by omega) hc.1 hc.2 t1 t2 rx ry _ _ _ _ (mG I sg wq)
 ·cases e
theorem Ft(hK:W.K=X.K)(hu:X.A.units+64<cLine):gj X (compareOp .NotEq) (qC W iX):=by
 intro pins s σ H x y v u Q I rx ry h;obtain⟨H0,G,p,q,r,sg,t1,t2,e,wq⟩:=h
 unfold iX at e;split at e
 ·rename_i hc;rw [zza] at hc;cases e;exact Ap I hK sg 8 (by omega) hc.1 hc.2 t1 t2 rx ry _ _ _ _ (mG I sg wq)
 ·cases e
theorem gA{G:Hp}:∀{xs:List PV} {vs:List V} {ns:List Int},ak W G xs vs→intsOf xs=some ns→vs=ns.map V.int
 |[],vs,ns,h,e=>by simp only [ak] at h;subst h;cases e;rfl
 |.int i::r,vs,ns,h,e=>by
  obtain⟨v,t,rfl,h1,h2⟩:=h.uncons
  simp only [Rep] at h1;subst h1;unfold intsOf at e;obtain⟨m,hm,rfl⟩:=Option.map_eq_some_iff.mp e
  rw [gA h2 hm]
  rfl
 |.non::_,_,_,_,e=>by cases e
 |.bl _::_,_,_,_,e=>by cases e
 |.str _::_,_,_,_,e=>by cases e
 |.tup _::_,_,_,_,e=>by cases e
 |.lst _::_,_,_,_,e=>by cases e
 |.exc _::_,_,_,_,e=>by cases e
 |.dct _ _::_,_,_,_,e=>by cases e
theorem js{G:Hp}:∀{xs:List PV} {vs:List V} {ns:List Str},ak W G xs vs→strsOf xs=some ns→vs=ns.map V.str
 |[],vs,ns,h,e=>by simp only [ak] at h;subst h;cases e;rfl
 |.str i::r,vs,ns,h,e=>by
  obtain⟨v,t,rfl,h1,h2⟩:=h.uncons
  simp only [Rep] at h1;subst h1;unfold strsOf at e;obtain⟨m,hm,rfl⟩:=Option.map_eq_some_iff.mp e
  rw [js h2 hm]
  rfl
 |.non::_,_,_,_,e=>by cases e
 |.int _::_,_,_,_,e=>by cases e
 |.bl _::_,_,_,_,e=>by cases e
 |.tup _::_,_,_,_,e=>by cases e
 |.lst _::_,_,_,_,e=>by cases e
 |.exc _::_,_,_,_,e=>by cases e
 |.dct _ _::_,_,_,_,e=>by cases e
theorem Res.of_ok{α:Type}{o:Option α}{a:α}(h:Res.of o=.ok a):o=some a:=by
 cases o with
 |none=>cases h
 |some b=>cases h;rfl
theorem ES(hK:W.K=X.K)(hu:X.A.units+64<cLine):gj X (compareOp .Lt) (qC W oN):=by
 intro pins s σ H x y v u Q I rx ry h;obtain⟨H0,G,p,q,r,sg,t1,t2,e,wq⟩:=h
 unfold oN at e;split at e
 ·cases e;exact Hi pins s σ H x y v u Q I rx ry ⟨_,_,t1.int,t2.int,wq.at sg .b⟩
 ·cases e
theorem Gb:gj X (compareOp .LtE) (qC W pZ):=by
 intro pins s σ H x y v u Q I rx ry h;obtain⟨H0,G,p,q,r,sg,t1,t2,e,wq⟩:=h
 unfold pZ at e;split at e
 ·cases e;exact HN pins s σ H x y v u Q I rx ry ⟨_,_,t1.int,t2.int,wq.at sg .b⟩
 ·cases e
theorem DY:gj X (compareOp .Gt) (qC W qV):=by
 intro pins s σ H x y v u Q I rx ry h;obtain⟨H0,G,p,q,r,sg,t1,t2,e,wq⟩:=h
 unfold qV at e;split at e
 ·cases e;exact IS pins s σ H x y v u Q I rx ry ⟨_,_,t1.int,t2.int,wq.at sg .b⟩
 ·cases e
theorem me{H0 G H:Hp}{p:PV}{x:V}(sg:aF G H)(t:Top W H0 G H p x):decide (x=.non)=y6 p:=by
 cases p with
 |non=>cases t.non;rfl
 |bl b=>cases t.bl;rfl
 |int b=>cases t.int;rfl
 |str b=>cases t.str;rfl
 |tup b=>obtain⟨a,vs,rfl,_⟩:=t.tup sg;rfl
 |lst b=>obtain⟨a,vs,rfl,_⟩:=t.lst sg;rfl
 |dct b c=>obtain⟨a,vs,rfl,_⟩:=t.dct sg;rfl
 |exc c=>
  rcases t with t|t
  ·simp only [Rep] at t;obtain⟨a,C,rfl,_⟩:=t
   rfl
  ·exact t.elim
theorem Fz:gj X (compareOp .Is) (qC W rO):=by
 intro pins s σ H x y v u Q I rx ry h;obtain⟨H0,G,p,q,r,sg,t1,t2,e,wq⟩:=h
 unfold rO at e;split at e
 ·cases e;refine FQ pins s σ H x y v u Q I rx ry ⟨t2.non,?_⟩;rw [me sg t1];exact wq.at sg .b
 ·cases e
theorem BI:gj X (compareOp .IsNot) (qC W e8):=by
 intro pins s σ H x y v u Q I rx ry h;obtain⟨H0,G,p,q,r,sg,t1,t2,e,wq⟩:=h
 unfold e8 at e;split at e
 ·cases e;refine Bc pins s σ H x y v u Q I rx ry ⟨t2.non,?_⟩;rw [me sg t1];exact wq.at sg .b
 ·cases e
end
end Ci
namespace L2
open PySem PySem.Spec PyProof.Rows
section
variable{prog:Program}{w:World}{K:Type} [DecidableEq K]{knd:HeapKind prog w K}{A:Around}{E:Value→Shared→Prop}{s:Shared}
inductive fw{K:Type} [DecidableEq K](A:Around)(s:Shared)(kb:List (K×Addr×Value)):List (K×Addr×Value)→Bool→Prop
 |nil:fw A s kb [] true
 |miss {k:K} {p:Addr×Value} {r:List (K×Addr×Value)}:atKey kb k=none→fw A s kb ((k,p)::r) false
 |hit {k:K} {p q:Addr×Value} {r:List (K×Addr×Value)} {e b:Bool}:atKey kb k=some q→SeqAt.EqAt A s p.2 q.2 e→fw A s kb r b→fw A s kb ((k,p)::r) (e&&b)
theorem fw.inv{kb:List (K×Addr×Value)}{k:K}{p:Addr×Value}{r:List (K×Addr×Value)}{b:Bool}(h:fw A s kb ((k,p)::r) b):
 (atKey kb k=none∧b=false)∨∃y e b',atKey kb k=some y∧SeqAt.EqAt A s p.2 y.2 e∧fw A s kb r b'∧b=(e&&b'):=by
 cases h with
 |miss hn=>exact .inl ⟨hn,rfl⟩
 |hit hy he hr=>exact .inr ⟨_,_,_,hy,he,hr,rfl⟩
theorem zA{nm:String}{a b:Addr}{ka kb:List (K×Addr×Value)}{r:Bool}{Q:Bool→Shared→Prop}(hu:knd.room A)(ha:(a==sysModules)=false)(hb:(b==sysModules)=false)
 (da:s.heap.DictOfH knd a ka) (db:s.heap.DictOfH knd b kb) (hits:ka.length=kb.length→fw A s kb ka r) (h:Q (ka.length==kb.length&&r) s):
 wpAny (model prog w) A (Builtin.Dict.samePairs nm a b) Q E s:=by
 obtain⟨oa,es,ep,hoa,_,hda,Jh,hka,hna⟩:=da
 obtain⟨ob,wy,ep',hob,_,AB,Ij,hkb,sD⟩:=db
 have Jk:ka.length=es.size:=(size_of_entries Jh).symm
 have Ms:kb.length=wy.size:=(size_of_entries Ij).symm
 rw [Jk,Ms] at h;unfold Builtin.Dict.samePairs Builtin.Dict.showsAll;rw [if_neg (show¬(a==sysModules)=true by rw [ha];exact zzf),if_neg (show¬(b==sysModules)=true by rw [hb];exact zzf)];refine wpAny_bind (wpAny_pure (wpAny_bind (wpAny_pure ?_)));refine wpAny_bind (wpAny_dictEntries hoa hda ?_);dsimp only;refine wpAny_bind (wpAny_dictEntries hob AB ?_)
 by_cases hsz:es.size=wy.size
 case neg=>
  rw [if_pos (by simpa using hsz)];have yR:(es.size==wy.size)=false:=by simpa using hsz
  rw [yR,Bool.false_and] at h;exact wpAny_bind (wpAny_rule (wpAny_pure h))
 case pos=>
  have h':Q r s:=by simpa [hsz] using h
  have Ii:=hits (by rw [Jk,Ms];exact hsz)
  rw [if_neg (by rw [hsz];simp)];refine wpAny_bind (wpAny_dictEpoch hoa hda ?_);refine wpAny_bind ?_;rw [Std.Legacy.Range.forIn_eq_forIn_range'];simp only [Std.Legacy.Range.size,Nat.sub_zero,Nat.add_sub_cancel,Nat.div_one];refine wpAny_forIn_list _
   (fun rest q s'=>s'=s∧q=(none,())∧∃i,rest=List.range' i (es.size-i)∧i≤es.size∧fw A s kb (ka.drop i) r)
   _ ?_ ?_ _ _ ⟨rfl,rfl,0,by simp,Nat.zero_le _,Ii⟩
  ·rintro x rest q s' ⟨rfl,rfl,i,hr,hi,jj⟩
   have cq:i<es.size:=by
    rcases Nat.lt_or_ge i es.size with h|h
    ·exact h
    ·rw [Nat.sub_eq_zero_of_le h] at hr;simp at hr
   obtain⟨rfl,hrest⟩:x=i∧rest=List.range' (i+1) (es.size-(i+1)):=by
    have e:es.size-i=(es.size-(i+1))+1:=by omega
    rw [e,List.range'_succ] at hr
    injection hr with h1 h2
    exact⟨h1,h2⟩
   refine wpAny_bind (wpAny_dictEntries hoa hda ?_);have F4:x<ka.length:=by rw [Jk];exact cq
   obtain⟨k,p,hkv⟩:∃k p,ka[x]=(k,p):=⟨_,_,rfl⟩
   have JV:es[x]?=some (entryOfKey knd (k,p)):=by rw [entry_at Jh,zzg F4,hkv];rfl
   rw [JV];have HL:ka.drop x=(k,p)::ka.drop (x+1):=by rw [←hkv];exact List.drop_eq_getElem_cons F4
   have Av:knd.is s'.heap k p.1:=hka (k,p) (by rw [←hkv];exact List.getElem_mem F4)
   rw [HL] at jj;show wpAny _ _ (holding [Value.ref p.1,p.2] _>>=_) _ _ _;refine wpAny_bind (wpAny_holding (wpAny_bind (wpAny_dictFind_heap hu Av hob AB Ij hkb sD (fun Kz=>?_) fun j q hj=>?_)))
   ·have hn:atKey kb k=none:=atKey_none_of_get Kz
    rcases jj.inv with⟨_,er⟩|⟨y,_,_,hy,_⟩
    ·rw [er] at h';refine wpAny_pure ?_;show wpAny _ _ (if(!false)=true then _ else _) _ _ _;rw [if_pos (by decide)];exact wpAny_pure (wpAny_pure h')
    ·rw [hn] at hy;exact nomatch hy
   ·have MQ:atKey kb k=some q:=atKey_of_get sD hj
    refine wpAny_bind (wpAny_dictEntries hob AB ?_);have Ir:wy[j]?=some (entryOfKey knd (k,q)):=by rw [entry_at Ij,hj];rfl
    rw [Ir];rcases jj.inv with⟨hn,_⟩|⟨y,e,b',hy,he,hrr,er⟩
    ·rw [MQ] at hn;exact nomatch hn
    ·have ey:q=y:=Option.some.inj (MQ.symm.trans hy)
     rw [←ey] at he;show wpAny _ _ (holding [q.2] (eqBool p.2 q.2)) _ _ _;refine wpAny_holding (he prog w _ _ ?_);cases e with
     |false=>
      rw [er,Bool.false_and] at h';show wpAny _ _ (if(!false)=true then _ else _) _ _ _;rw [if_pos (by decide)];exact wpAny_pure (wpAny_pure h')
     |true=>
      rw [Bool.true_and] at er;rw [←er] at hrr;show wpAny _ _ (if(!true)=true then _ else _) _ _ _;rw [if_neg (by decide)];refine wpAny_bind (wpAny_dictEpoch hoa hda ?_);rw [if_neg (by simp)];exact wpAny_pure ⟨rfl,rfl,x+1,hrest,cq,hrr⟩
  ·rintro q s' ⟨rfl,rfl,i,hr,hi,jj⟩
   have GJ:i=es.size:=by
    rcases Nat.lt_or_ge i es.size with h|h
    ·have e:es.size-i=(es.size-(i+1))+1:=by omega
     rw [e,List.range'_succ] at hr;exact nomatch hr
    ·exact Nat.le_antisymm hi h
   refine wpAny_pure ?_;rw [GJ,←Jk,List.drop_length] at jj;cases jj;exact h'
theorem Ia{a b:Addr}{ka kb:List (K×Addr×Value)}{r:Bool}{Q:Value→Shared→Prop}(hr:knd.room A.in1)(ha:(a==sysModules)=false)(hb:(b==sysModules)=false)
 (da:s.heap.DictOfH knd a ka) (db:s.heap.DictOfH knd b kb) (hu:A.units<cLine) (hits:ka.length=kb.length→fw A.in1 s kb ka r) (h:Q (.bool (!(ka.length==kb.length&&r))) s):
 wpAny (model prog w) A (compareOp .NotEq (.ref a) (.ref b)) Q E s:=by
 refine wpAny_richCompare_same_room (op:=.NotEq) da.typeIs db.typeIs PySem.F.slot_dict_ne (wpAny_call_entry PySem.F.slot_dict_ne da.typeIs PySem.F.entry_dict_ne ?_ (PySem.F.args_dict_ne_2 _ _)) hu;show wpAny _ _ (Builtin.Dict.dictSlotArgs "__ne__" ⟨[.ref a,.ref b],[]⟩>>=_) _ _ s;refine wpAny_bind ?_;unfold Builtin.Dict.dictSlotArgs;refine wpAny_bind (wpAny_notOrdered_dict da.typeIs ?_);show wpAny _ _ (pure (Value.ref a,Value.ref b)) _ _ s;refine wpAny_pure ?_;refine wpAny_bind (wpAny_isInstance (T:="dict") db.typeIs PySem.F.sub_dict_dict ?_);simp only [Bool.not_true,Bool.false_eq_true,if_false];refine wpAny_bind (wpAny_pure (wpAny_bind (wpAny_pure ?_)));refine wpAny_bind (zA hr ha hb da db hits ?_);refine wpAny_pure ⟨_,rfl,?_,?_⟩
 ·exact fun x=>nomatch x
 ·simpa using h
end
end L2
namespace Ci
open PySem L2
section
variable{X:Cx}{W:Wd}
theorem yb{α β:Type}(f:α→β):∀(ks:List (List Int)) (vs:List α) (k:List Int),ai ks (vs.map f) k=(ai ks vs k).map f
 |[],_,_=>rfl
 |_::_,[],_=>rfl
 |a::ks,v::vs,k=>by
  simp only [List.map_cons,ai];split
  ·rfl
  ·exact yb f ks vs k
theorem sM{H:Hp}:∀{ks:List (List Int)} {ns:List Int} {xs:List (List Key×Addr×Value)},ks.length=ns.length→KT H (kz ks (ns.map V.int)) xs→xs.length=ks.length∧∀(A:Around) (s:Shared) {H':Hp} {jb:List (List Int)} {wA:List Int} {wt:List (List Key×Addr×Value)},KT H' (kz jb (wA.map V.int)) wt→fw A s wt xs (oo jb wA ks ns):=by
 intro ks
 induction ks with
 |nil=>
  intro ns xs hl r;cases r;exact⟨rfl,fun A s H' jb wA wt r'=>.nil⟩
 |cons k ks ih=>
  intro ns xs hl r;cases ns with
  |nil=>cases hl
  |cons n ns=>
   have r:KT H ((ki k,V.int n)::kz ks (ns.map V.int)) xs:=r
   cases r with
   |@cons p q ps qs h t=>
    obtain⟨h1,_,h2⟩:=h
    obtain⟨l,f⟩:=ih (by simpa using hl) t
    refine⟨by rw [List.length_cons,List.length_cons,l],fun A s H' jb wA wt r'=>?_⟩
    obtain⟨qk,qa,qv⟩:=q
    dsimp only at h1 h2;subst h1;have hv:=r'.val (ki k)
    rw [gG,yb] at hv;obtain⟨t1,rfl⟩:=h2
    unfold oo;cases hg:ai jb wA k with
    |none=>
     rw [hg] at hv;cases ha:atKey wt (ki k) with
     |none=>exact .miss ha
     |some y=>rw [ha] at hv;exact hv.elim
    |some m=>
     rw [hg] at hv;cases ha:atKey wt (ki k) with
     |none=>rw [ha] at hv;exact hv.elim
     |some y=>
      rw [ha] at hv;obtain⟨t2,e2⟩:=(show RelV (.int m) y.2 from hv)
      refine .hit (q:=y) ha ?_ (f A s r');show SeqAt.EqAt A s (.int n t1) y.2 (n==m);rw [e2];exact SeqAt.EqAt.int_int n t1 m t2
theorem Fb(hK:W.K=X.K)(hu:X.A.units+64<cLine):gj X (compareOp .NotEq) (qC W iS):=by
 intro pins s σ H x y v u Q I rx ry h;obtain⟨H0,G,p,q,r,sg,t1,t2,e,wq⟩:=h
 unfold iS at e;split at e
 ·obtain⟨ns,hn,e⟩:=Res.bind_ok e
  obtain⟨ms,hm,e⟩:=Res.bind_ok e
  cases e;obtain⟨a,us,rfl,n1,hd1,l1⟩:=t1.dct sg
  obtain⟨b,ws,rfl,n2,hd2,l2⟩:=t2.dct sg
  cases rx;cases ry;cases gA l1 (Res.of_ok hn);cases gA l2 (Res.of_ok hm);rw [zzl] at n1 n2;obtain⟨_,lo1,xs,r1,d1⟩:=gv I.hok hd1
  obtain⟨_,lo2,ys,r2,d2⟩:=gv I.hok hd2
  obtain⟨lx,fx⟩:=sM n1 r1
  obtain⟨ly,_⟩:=sM n2 r2
  refine Ia (tupleKind_room_in1 (by omega)) lo1 lo2 d1 d2 (by omega) (fun _=>fx _ _ r2) ?_;rw [lx,ly];exact mG I sg wq
 ·cases e
end
end Ci
namespace Ci
open PySem L2
theorem iB{α:Type}:∀{xs ys:List α},xs.length=ys.length→(∀(j:Nat) x y,xs[j]?=some x→ys[j]?=some y→x=y)→xs=ys
 |[],[],_,_=>rfl
 |x::xs,y::ys,h,k=>by rw [k 0 x y rfl rfl,iB (xs:=xs) (ys:=ys) (by simpa using h) fun j a b ha hb=>k (j+1) a b (by simpa using ha) (by simpa using hb)]
 |[],_::_,h,_=>by simp at h
 |_::_,[],h,_=>by simp at h
section
variable{X:Cx}{W:Wd}{H0 G H:Hp}
theorem AS{pins:List (Addr×Obj)}{σ:St}{s:Shared}(I:Inv X pins σ H s)(hK:W.K=X.K)(sg:aF G H):∀(n:Nat) {p q:PV} {v:V},plain n p=true→plain n q=true→Top W H0 G H p v→Top W H0 G H q v→p=q:=by
 intro n
 induction n with
 |zero=>
  intro p q v hp hq h1 h2;cases p with
  |non=>
   cases h1.non;cases q with
   |non=>cases h2.non;rfl
   |bl y=>cases h2.bl
   |int y=>cases h2.int
   |str y=>cases h2.str
   |exc c=>exact absurd hq zzf
   |dct a b=>exact absurd hq zzf
   |tup xs=>exact absurd hq zzf
   |lst xs=>exact absurd hq zzf
  |bl x=>
   cases h1.bl;cases q with
   |non=>cases h2.non
   |bl y=>cases h2.bl;rfl
   |int y=>cases h2.int
   |str y=>cases h2.str
   |exc c=>exact absurd hq zzf
   |dct a b=>exact absurd hq zzf
   |tup xs=>exact absurd hq zzf
   |lst xs=>exact absurd hq zzf
  |int x=>
   cases h1.int;cases q with
   |non=>cases h2.non
   |bl y=>cases h2.bl
   |int y=>cases h2.int;rfl
   |str y=>cases h2.str
   |exc c=>exact absurd hq zzf
   |dct a b=>exact absurd hq zzf
   |tup xs=>exact absurd hq zzf
   |lst xs=>exact absurd hq zzf
  |str x=>
   cases h1.str;cases q with
   |non=>cases h2.non
   |bl y=>cases h2.bl
   |int y=>cases h2.int
   |str y=>cases h2.str;rfl
   |exc c=>exact absurd hq zzf
   |dct a b=>exact absurd hq zzf
   |tup xs=>exact absurd hq zzf
   |lst xs=>exact absurd hq zzf
  |exc c=>exact absurd hp zzf
  |dct a b=>exact absurd hp zzf
  |tup xs=>exact absurd hp zzf
  |lst xs=>exact absurd hp zzf
 |succ n ih=>
  intro p q v hp hq h1 h2;have el:∀{xs ys:List PV} {vs:List V},xs.all (plain n)=true→ys.all (plain n)=true→ak W G xs vs→ak W G ys vs→xs=ys:=fun{xs ys vs} a1 a2 l1 l2=>
   iB (by rw [←l1.length,l2.length]) fun j x y ex ey=>by
    obtain⟨u,eu,ku⟩:=l1.getP ex
    obtain⟨y',ey',ky⟩:=l2.get eu
    rw [ey] at ey';cases ey';exact ih (List.all_eq_true.mp a1 _ (List.mem_of_getElem? ex)) (List.all_eq_true.mp a2 _ (List.mem_of_getElem? ey)) (.inl ku) (.inl ky)
  cases p with
  |exc c=>exact absurd hp zzf
  |dct a b=>exact absurd hp zzf
  |tup xs=>
   obtain⟨a,vs,rfl,sq,l⟩:=h1.tup sg
   rw [hK] at sq;cases q with
   |exc c=>exact absurd hq zzf
   |dct a b=>exact absurd hq zzf
   |non=>cases h2.non
   |bl b=>cases h2.bl
   |int b=>cases h2.int
   |str b=>cases h2.str
   |lst ys=>
    obtain⟨b,us,e,sq20,l2⟩:=h2.lst sg
    have bu:=dW hK sq20
    cases e;exact(gZ I sq bu).elim
   |tup ys=>
    obtain⟨b,us,e,bu,l2⟩:=h2.tup sg
    rw [hK] at bu;cases e;cases I.tuple_inj sq bu;rw [el hp hq l l2]
  |lst xs=>
   obtain⟨a,vs,rfl,sq0,l⟩:=h1.lst sg
   have sq:=dW hK sq0
   cases q with
   |exc c=>exact absurd hq zzf
   |dct a b=>exact absurd hq zzf
   |non=>cases h2.non
   |bl b=>cases h2.bl
   |int b=>cases h2.int
   |str b=>cases h2.str
   |tup ys=>
    obtain⟨b,us,e,bu,l2⟩:=h2.tup sg
    rw [hK] at bu;cases e;exact(gZ I bu sq).elim
   |lst ys=>
    obtain⟨b,us,e,sq20,l2⟩:=h2.lst sg
    have bu:=dW hK sq20
    cases e;cases I.list_inj sq bu;rw [el hp hq l l2]
  |non=>
   cases h1.non;cases q with
   |non=>cases h2.non;rfl
   |bl y=>cases h2.bl
   |int y=>cases h2.int
   |str y=>cases h2.str
   |tup ys=>obtain⟨b,us,e,_⟩:=h2.tup sg;cases e
   |lst ys=>obtain⟨b,us,e,_⟩:=h2.lst sg;cases e
   |exc c=>exact absurd hq zzf
   |dct a b=>exact absurd hq zzf
  |bl x=>
   cases h1.bl;cases q with
   |non=>cases h2.non
   |bl y=>cases h2.bl;rfl
   |int y=>cases h2.int
   |str y=>cases h2.str
   |tup ys=>obtain⟨b,us,e,_⟩:=h2.tup sg;cases e
   |lst ys=>obtain⟨b,us,e,_⟩:=h2.lst sg;cases e
   |exc c=>exact absurd hq zzf
   |dct a b=>exact absurd hq zzf
  |int x=>
   cases h1.int;cases q with
   |non=>cases h2.non
   |bl y=>cases h2.bl
   |int y=>cases h2.int;rfl
   |str y=>cases h2.str
   |tup ys=>obtain⟨b,us,e,_⟩:=h2.tup sg;cases e
   |lst ys=>obtain⟨b,us,e,_⟩:=h2.lst sg;cases e
   |exc c=>exact absurd hq zzf
   |dct a b=>exact absurd hq zzf
  |str x=>
   cases h1.str;cases q with
   |non=>cases h2.non
   |bl y=>cases h2.bl
   |int y=>cases h2.int
   |str y=>cases h2.str;rfl
   |tup ys=>obtain⟨b,us,e,_⟩:=h2.tup sg;cases e
   |lst ys=>obtain⟨b,us,e,_⟩:=h2.lst sg;cases e
   |exc c=>exact absurd hq zzf
   |dct a b=>exact absurd hq zzf
theorem Cm{pins:List (Addr×Obj)}{σ:St}{s:Shared}(I:Inv X pins σ H s)(hK:W.K=X.K)(sg:aF G H){A:Around}{a:PV}{x:V}{x':Value}{ys:List PV}{us:List V}{aD:List Value}(hu:A.units+32<cLine)(ha:zK a=true)(hy:ys.all zK=true)(ta:Top W H0 G H a x)(rx:RelV x x')(l:ak W G ys us)(r:Vals us aD):
 ∃e:Value→Bool,(∀y∈aD,SeqAt.EqAt A s y x' (e y))∧∀(j:Nat) (y:Value) (p:PV),aD[j]?=some y→ys[j]?=some p→e y=eqv p a:=by
 classical
 have key:∀(j:Nat) (y:Value),aD[j]?=some y→∃p u,ys[j]?=some p∧us[j]?=some u∧Rep W G p u∧RelV u y∧zK p=true:=fun j y e=>by
  have hj:=(List.getElem?_eq_some_iff.mp e).1
  have hl:=r.length
  obtain⟨u,FU,Ei⟩:=r.get (i:=j) (x:=us[j]'(by omega)) (zzg (by omega))
  rw [e] at FU;cases FU;obtain⟨p,hp,kp⟩:=l.get (zzg (show j<us.length by omega))
  exact⟨p,_,hp,zzg (by omega),kp,Ei,List.all_eq_true.mp hy p (List.mem_of_getElem? hp)⟩
 refine⟨fun y=>if h:∃(j:Nat) (p:PV),aD[j]?=some y∧ys[j]?=some p then eqv h.choose_spec.choose a else false,fun y Eu=>?_,fun j y p e1 e2=>?_⟩
 ·obtain⟨j,hj,e⟩:=List.getElem_of_mem Eu
  have ej:aD[j]?=some y:=by rw [zzg hj,e]
  obtain⟨p,u,h1,h2,h3,h4,h5⟩:=key j y ej
  have hex:∃(j:Nat) (p:PV),aD[j]?=some y∧ys[j]?=some p:=⟨j,p,ej,h1⟩
  dsimp only;rw [dif_pos hex];have sp:=hex.choose_spec.choose_spec
  obtain⟨p2,u2,g1,g2,g3,g4,g5⟩:=key _ y sp.1
  have e3:hex.choose_spec.choose=p2:=Option.some.inj (sp.2.symm.trans g1)
  rw [e3];exact xf (H0:=H0) I hK sg 9 (by omega) g5 ha (.inl g3) ta g4 rx
 ·have hex:∃(j:Nat) (p:PV),aD[j]?=some y∧ys[j]?=some p:=⟨j,p,e1,e2⟩
  dsimp only;rw [dif_pos hex];obtain⟨p1,u1,f1,f2,f3,f4,f5⟩:=key j y e1
  rw [e2] at f1;cases f1;have sp:=hex.choose_spec.choose_spec
  obtain⟨p2,u2,g1,g2,g3,g4,g5⟩:=key _ y sp.1
  have e3:hex.choose_spec.choose=p2:=Option.some.inj (sp.2.symm.trans g1)
  have e4:u1=u2:=f4.inj g4
  subst e4;rw [e3,AS I hK sg DP g5 f5 (.inl g3:Top W H0 G H p2 u1) (.inl f3)]
theorem FZ{aD:List Value}{ys:List PV}{e:Value→Bool}{f:PV→Bool}:aD.length=ys.length→(∀(j:Nat) (y:Value) (p:PV),aD[j]?=some y→ys[j]?=some p→e y=f p)→aD.any e=ys.any f:=by
 intro hl h;have:aD.map e=ys.map f:=iB (by simpa using hl) fun j x y hx hy=>by
  rw [List.getElem?_map] at hx hy;obtain⟨a,ha,rfl⟩:=Option.map_eq_some_iff.mp hx
  obtain⟨b,hb,rfl⟩:=Option.map_eq_some_iff.mp hy
  exact h j a b ha hb
 calc aD.any e=(aD.map e).any id:=by rw [List.any_map];rfl
  _=(ys.map f).any id:=by rw [this]
  _=ys.any f:=by rw [List.any_map];rfl
theorem DA(hK:W.K=X.K)(hu:X.A.units+64<cLine):gj X (compareOp .In) (qC W rn):=by
 intro pins s σ H x y v u Q I rx ry h;obtain⟨H0,G,p,q,r,sg,t1,t2,e,wq⟩:=h
 have FU:X.A.in1.units+32<cLine:=by show X.A.units+1+32<_;omega
 unfold rn at e;split at e
 ·obtain⟨k,hk,e⟩:=Res.bind_ok e
  cases e;have hk:=fU (Res.of_ok hk)
  subst hk;obtain⟨b,rfl,hb⟩:=t1.tupI (ns:=k) sg rfl
  obtain⟨a,us,rfl,n,hd,l⟩:=t2.dct sg
  cases ry;refine LQ (show X.A.units+1<cLine by omega) I (.inr ⟨_,ki k,b,hd,rfl,(by rw [nX];exact sg _ _ hb),rfl⟩) rx fun s' I'=>?_
  rw [gG,i7 k _ us n];exact mG I' sg wq
 ·cases e
theorem Ce(hK:W.K=X.K)(hu:X.A.units+64<cLine):gj X (compareOp .NotIn) (qC W fb):=by
 intro pins s σ H x y v u Q I rx ry h;obtain⟨H0,G,p,q,r,sg,t1,t2,e,wq⟩:=h
 have FU:X.A.in1.units+32<cLine:=by show X.A.units+1+32<_;omega
 unfold fb at e;split at e
 ·split at e
  ·rename_i hc;rw [zza] at hc;cases e;obtain⟨b,us,rfl,q2,l2⟩:=t2.lst sg
   cases ry;obtain⟨aD,rv,z,_⟩:=I.list (dW hK q2)
   obtain⟨e,he,hv⟩:=Cm I hK sg FU hc.1 hc.2 t1 rx l2 rv
   refine SeqAt.notIn_listAt e z.isList (fun y hy=>he y (by simpa using hy)) ?_
   have:=FZ (by rw [←rv.length,l2.length]) hv
   rw [List.any_toArray,this];exact mG I sg wq
  ·cases e
 ·obtain⟨k,hk,e⟩:=Res.bind_ok e
  cases e;have hk:=fU (Res.of_ok hk)
  subst hk;obtain⟨b,rfl,hb⟩:=t1.tupI (ns:=k) sg rfl
  obtain⟨a,us,rfl,n,hd,l⟩:=t2.dct sg
  cases ry;refine zO (show X.A.units+1<cLine by omega) I (.inr ⟨_,ki k,b,hd,rfl,(by rw [nX];exact sg _ _ hb),rfl⟩) rx fun s' I'=>?_
  rw [gG,i7 k _ us n];exact mG I' sg wq
 ·cases e
theorem fY(hK:W.K=X.K)(hu:X.A.units+64<cLine):∀o:wH,gj X (compareOp (oH o)) (qC W (c7 o))
 |.eq=>FJ hK hu|.ne=>Ft hK hu|.lt=>ES hK hu|.le=>Gb|.gt=>DY|.is=>Fz|.isn=>BI|.in_=>DA hK hu|.nin=>Ce hK hu|.neD=>Fb hK hu
theorem uw{ps:List PV}{vs:List V}{i:Int}{p:PV}(l:ak W G ps vs)(h:pL ps i=some p):∃v,pL vs i=some v∧Rep W G p v:=by
 unfold pL at h⊢;rw [l.length];cases e:C3 ps.length i with
 |none=>rw [e] at h;cases h
 |some j=>
  rw [e] at h;exact l.getP h
theorem Eh(hu:X.A.units+1<cLine):Gh X (fun x y H Q=>∃a aB k b v,x=.ref a∧Rd H a (.dT aB)∧y=.ref b∧H b=some (.tup (k.map kV))∧gq aB k=some v∧Q v H):=by
 intro value slice pins s σ H x y v u Q I rx ry h hs;obtain⟨a,aB,k,b,z,rfl,hd,rfl,hb,hv,q⟩:=h
 cases rx;cases ry;obtain⟨_,_,xs,rel,dd⟩:=gv I.hok hd
 obtain⟨w',hw,gu⟩:=i4.some_of (v:=z) (o:=(atKey xs k).map (·.2)) (by rw [←hv];exact rel.val k)
 obtain⟨p,hp,hp2⟩:=Option.map_eq_some_iff.mp hw
 exact PyProof.Rows.subscriptTail_builtinR (x:=w') dd.typeIs PySem.F.slot_dict_getitem.lookup (wpAny_getItem_heap (Q:=fun r s'=>r=w'∧EP X pins σ Q r s') (tupleKind_room_in1 hu) (fJ I.hok hb) dd hp ⟨hp2,by rw [hp2];exact⟨z,H,I.tok _,gu,q⟩⟩) hs
theorem JN(hK:W.K=X.K)(hu:X.A.units+64<cLine):Gh X (qC W aM):=by
 intro value slice pins s σ H x y v u Q I rx ry h hs;obtain⟨H0,G,p,q,r,sg,t1,t2,e,wq⟩:=h
 unfold aM at e;split at e
 ·obtain⟨a,vs,rfl,h1,l1⟩:=t1.lst sg
  obtain⟨w,hw,kw⟩:=uw l1 (Res.of_ok e)
  exact A9 value slice pins s σ H _ y v u Q I rx ry ⟨a,vs,_,w,rfl,t2.int,dW hK h1,hw,wq.at sg kw⟩ hs
 ·obtain⟨a,vs,rfl,h1,l1⟩:=t1.tup sg
  rw [hK] at h1;obtain⟨w,hw,kw⟩:=uw l1 (Res.of_ok e)
  exact zt value slice pins s σ H _ y v u Q I rx ry ⟨a,vs,_,w,rfl,t2.int,h1,hw,wq.at sg kw⟩ hs
 ·split at e
  ·rename_i hl;obtain⟨c,hc,e⟩:=Res.bind_ok e
   cases e;exact F5 value slice pins s σ H x y v u Q I rx ry ⟨_,_,c,t1.str,t2.int,jy hl,Res.of_ok hc,wq.at sg .s⟩ hs
  ·cases e
 ·obtain⟨k,hk,e2⟩:=Res.bind_ok e
  have hk:=fU (Res.of_ok hk)
  subst hk;obtain⟨b,rfl,hb⟩:=t2.tupI (ns:=k) sg rfl
  obtain⟨a,us,rfl,n,hd,l⟩:=t1.dct sg
  obtain⟨w,hw,kw⟩:=oE l (Res.of_ok e2)
  exact Eh (by omega) value slice pins s σ H _ _ v u Q I rx ry ⟨a,_,ki k,b,w,rfl,hd,rfl,(by rw [nX];exact sg _ _ hb),(by rw [gG];exact hw),wq.at sg kw⟩ hs
 ·cases e
theorem AO{ps:List PV}{vs:List V}(lo hi:Option Int)(l:ak W G ps vs):ak W G (qL ps lo hi) (vT vs lo hi):=by
 unfold qL vT;rw [l.length];exact(l.drop _).take _
theorem Kd(hK:W.K=X.K):L2.SlR X (fun x lo hi H Q=>∃H0 G p r,aF G H∧Top W H0 G H p x∧eV p lo hi=.ok r∧cY W G H r Q):=by
 intro pins s σ H x v vl vu lo hi sl Q I rx hs pl pu h;obtain⟨H0,G,p,r,sg,t1,e,wq⟩:=h
 unfold eV at e;split at e
 ·cases e;obtain⟨a,vs,rfl,h1,l1⟩:=t1.lst sg
  exact zS pins s σ H _ v vl vu _ _ sl Q I rx hs pl pu ⟨a,vs,rfl,dW hK h1,fun p hp=>wq.lst sg (AO _ _ l1) hp⟩
 ·cases e
end
end Ci
namespace Ci
open PySem L2
section
variable{X:Cx}{W:Wd}
def yX(W:Wd)(f:List PV→Res PV):List V→Hp→VK→Prop:=fun vs H Q=>∃H0 G ps r,aF G H∧Paired (fun v p=>Top W H0 G H p v) vs ps∧f ps=.ok r∧cY W G H r Q
theorem gr{H0 G H:Hp}{vs:List V}{p:PV}(h:Paired (fun v p=>Top W H0 G H p v) vs [p]):∃v,vs=[v]∧Top W H0 G H p v:=by
 cases h with
 |cons h t=>cases t;exact⟨_,rfl,h⟩
theorem Dk{H0 G H:Hp}{vs:List V}{p q:PV}(h:Paired (fun v p=>Top W H0 G H p v) vs [p,q]):∃v u,vs=[v,u]∧Top W H0 G H p v∧Top W H0 G H q u:=by
 cases h with
 |cons h t=>
  cases t with
  |cons h2 t2=>cases t2;exact⟨_,_,rfl,h,h2⟩
theorem uR(hK:W.K=X.K):cT X (.builtin "len") (yX W si):=by
 intro pins s σ H xs us Q I r h;obtain⟨H0,G,ps,rr,sg,tp,e,wq⟩:=h
 unfold si at e;split at e
 ·cases e;obtain⟨v,rfl,t⟩:=gr tp
  obtain⟨a,vs,rfl,h1,l1⟩:=t.lst sg
  exact gP pins s σ H _ us Q I r ⟨a,vs,rfl,.inl (dW hK h1),by rw [l1.length];exact wq.at sg .i⟩
 ·cases e;obtain⟨v,rfl,t⟩:=gr tp
  obtain⟨a,vs,rfl,h1,l1⟩:=t.tup sg
  rw [hK] at h1;exact gP pins s σ H _ us Q I r ⟨a,vs,rfl,.inr h1,by rw [l1.length];exact wq.at sg .i⟩
 ·split at e
  ·rename_i hl;cases e;obtain⟨v,rfl,t⟩:=gr tp
   exact oF pins s σ H _ us Q I r ⟨_,by rw [t.str],jy hl,wq.at sg .i⟩
  ·cases e
 ·cases e;obtain⟨v,rfl,t⟩:=gr tp
  obtain⟨a,us',rfl,n,hd,l⟩:=t.dct sg
  obtain⟨u,rfl,ru⟩:=vals1 r
  cases ru;exact Fw I hd fun t s' I'=>⟨.int _,H,I',⟨t,rfl⟩,by rw [eK n];exact wq.at sg .i⟩
 ·cases e
theorem wb:cT X (.builtin "abs") (yX W xt):=by
 intro pins s σ H xs us Q I r h;obtain⟨H0,G,ps,rr,sg,tp,e,wq⟩:=h
 unfold xt at e;split at e
 ·cases e;obtain⟨v,rfl,t⟩:=gr tp
  exact xq pins s σ H _ us Q I r ⟨_,by rw [t.int],wq.at sg .i⟩
 ·cases e
theorem vq(hc:X.calm=true):cT X (.builtin "max") (yX W yJ):=by
 intro pins s σ H xs us Q I r h;obtain⟨H0,G,ps,rr,sg,tp,e,wq⟩:=h
 unfold yJ at e;split at e
 ·cases e;obtain⟨v,u,rfl,t,t2⟩:=Dk tp
  exact vQ hc pins s σ H _ us Q I r ⟨_,_,by rw [t.int,t2.int],wq.at sg .i⟩
 ·cases e
theorem uZ:cT X (.type "int") (yX W xC):=by
 intro pins s σ H xs us Q I r h;obtain⟨H0,G,ps,rr,sg,tp,e,wq⟩:=h
 unfold xC at e;split at e
 ·split at e
  ·rename_i hl;obtain⟨n,hn,e⟩:=Res.bind_ok e
   cases e;obtain⟨v,rfl,t⟩:=gr tp
   exact ox pins s σ H _ us Q I r ⟨_,n,by rw [t.str],Res.of_ok hn,hl,wq.at sg .i⟩
  ·cases e
 ·cases e
theorem vY:cT X (.type "str") (yX W yf):=by
 intro pins s σ H xs us Q I r h;obtain⟨H0,G,ps,rr,sg,tp,e,wq⟩:=h
 unfold yf at e;split at e
 ·split at e
  ·rename_i hl;cases e;obtain⟨v,rfl,t⟩:=gr tp
   exact mR pins s σ H _ us Q I r ⟨_,by rw [t.int],hl,wq.at sg .s⟩
  ·cases e
 ·cases e
theorem pC(hK:W.K=X.K):cT X (.type "tuple") (yX W j2):=by
 intro pins s σ H xs us Q I r h;obtain⟨H0,G,ps,rr,sg,tp,e,wq⟩:=h
 unfold j2 at e;split at e
 ·cases e;obtain⟨v,rfl,t⟩:=gr tp
  obtain⟨a,vs,rfl,h1,l1⟩:=t.lst sg
  exact lD pins s σ H _ us Q I r ⟨a,vs,rfl,.inl ⟨dW hK h1,fun p hp=>wq.tup sg l1 hp⟩⟩
 ·cases e
def Mf(W:Wd)(f:List PV→Res PV):V→List V→Hp→VK→Prop:=fun x vs H Q=>yX W f (x::vs) H Q
theorem sC:∀{ys:List Str} {aD:List Value},Vals (ys.map V.str) aD→PyProof.Rows.StrsAre aD ys
 |[],_,.nil=>.nil
 |y::ys,_,.cons r t=>by
  obtain⟨tk,rfl⟩:=r
  exact .cons y tk (sC t)
theorem zd(hK:W.K=X.K):K1 X "str.join" (Mf W pE):=by
 intro pins s σ H x xs v us Q I rx r h;obtain⟨H0,G,ps,rr,sg,tp,e,wq⟩:=h
 unfold pE at e;split at e
 ·obtain⟨ys,hy,e⟩:=Res.bind_ok e
  split at e
  ·rename_i hc;cases e;obtain⟨v1,u1,e1,t,t2⟩:=Dk tp
   cases e1;cases t.str;obtain⟨tk,rfl⟩:=rx
   obtain⟨a,vs,rfl,h1,l1⟩:=t2.lst sg
   obtain⟨u,rfl,ru⟩:=Vals.one r
   cases ru;cases js l1 (Res.of_ok hy);obtain⟨aD,rv,z,_⟩:=I.list (dW hK h1)
   refine PyProof.Rows.join_listW z.isList (by simpa using sC rv) hc.1 (Nat.le_trans hc.2 (by decide)) fun t' k=>⟨.str _,H,I.tok _,⟨_,rfl⟩,wq.at sg .s⟩
  ·cases e
 ·cases e
def sd:Ty→String
 |.int=>"int"|.bool=>"bool"|.tuple=>"tuple"|.list=>"list"
theorem HD{K:PySem.W.Frag}(t:Ty):Cw.kit K "NoneType" (sd t) false∧(∀b,Cw.kit K "bool" (sd t) (ax t (.bl b)))∧(∀i,Cw.kit K "int" (sd t) (ax t (.int i)))∧(∀z,Cw.kit K "str" (sd t) (ax t (.str z)))∧(∀z,Cw.kit K "tuple" (sd t) (ax t (.tup z)))∧(∀z,Cw.kit K "list" (sd t) (ax t (.lst z))):=by
 cases t
 all_goals refine⟨?_,fun b=>?_,fun b=>?_,fun b=>?_,fun b=>?_,fun b=>?_⟩
 all_goals first
  |exact Cw.kit_same _
  |exact Cw.kit_of (b:=false) (by decide+kernel) (by decide+kernel) (by decide+kernel)
  |exact Cw.kit_of (b:=true) (by decide+kernel) (by decide+kernel) (by decide+kernel)
theorem zg(hK:W.K=X.K)(t:Ty):cT X (.builtin "isinstance") (fun xs H Q=>∃v H0 G p r,xs=[v,.ty (sd t)]∧aF G H∧Top W H0 G H p v∧ay t p=.ok r∧cY W G H r Q):=by
 intro pins s σ H xs us Q I rr h;obtain⟨v,H0,G,p,r,rfl,sg,tp,e,wq⟩:=h
 obtain⟨u,u2,rfl,ru,ru2⟩:=Vals.two rr
 cases ru2;obtain⟨k1,k2,k3,k4,k5,k6⟩:=HD (K:=X.K) t
 cases p with
 |exc c=>cases e
 |dct a b=>cases e
 |non=>cases e;cases tp.non;cases ru;cases t<;>exact PySem.W.kia_one PySem.W.kitx_none I.kIn True.intro k1 (fun z=>nomatch z) fun tk=>⟨.bl _,H,I.tok tk,rfl,wq.at sg .b⟩
 |bl b=>cases e;cases tp.bl;cases ru;exact PySem.W.kia_one PySem.W.kitx_bool I.kIn True.intro (k2 b) (fun z=>nomatch z) fun tk=>⟨.bl _,H,I.tok tk,rfl,wq.at sg .b⟩
 |int b=>cases e;cases tp.int;obtain⟨t1,rfl⟩:=ru;exact PySem.W.kia_one PySem.W.kitx_int I.kIn True.intro (k3 b) (fun z=>nomatch z) fun tk=>⟨.bl _,H,I.tok tk,rfl,wq.at sg .b⟩
 |str b=>cases e;cases tp.str;obtain⟨t1,rfl⟩:=ru;exact PySem.W.kia_one PySem.W.kitx_str I.kIn True.intro (k4 b) (fun z=>nomatch z) fun tk=>⟨.bl _,H,I.tok tk,rfl,wq.at sg .b⟩
 |tup b=>
  cases e;obtain⟨a,vs,rfl,h1,l1⟩:=tp.tup sg
  rw [hK] at h1;cases ru;obtain⟨aD,_,⟨o,e1,e2,_⟩,_⟩:=I.tuple h1
  exact PySem.W.kia_one PySem.W.kitx_tuple I.kIn ⟨o,e1,e2⟩ (k5 b) (fun z=>nomatch z) fun tk=>⟨.bl _,H,I.tok tk,rfl,wq.at sg .b⟩
 |lst b=>
  cases e;obtain⟨a,vs,rfl,h1,l1⟩:=tp.lst sg
  cases ru;obtain⟨aD,n,_,_,_,e1⟩:=Hx hK I h1
  exact PySem.W.kia_one PySem.W.kitx_list I.kIn ⟨_,e1,rfl⟩ (k6 b) (fun z=>nomatch z) fun tk=>⟨.bl _,H,I.tok tk,rfl,wq.at sg .b⟩
end
end Ci
namespace Ci
open PySem L2
section
variable{W:Wd}{X:Cx}{G H:Hp}
theorem sV{k:List Int}{v:V}(h:Rep W G (aq k) v):∃b,v=.ref b∧G b=some (.tup (k.map V.int)):=Top.tupI (H0:=G) (aF.refl G) rfl (.inl h)
theorem Cf{ps:List PV}{vs:List V}{nss:List (List Int)}(l:ak W G ps vs):ak W G (m9 .non ps nss) (m9 V.non vs nss):=by
 unfold m9;rw [l.length];split
 ·exact l
 ·have go:∀ix:List Nat,ak W G (ix.map fun i=>ps.getD i .non) (ix.map fun i=>vs.getD i V.non):=by
   intro ix
   induction ix with
   |nil=>exact .nil
   |cons i ix ih=>
    refine .cons ?_ ih;dsimp only
    by_cases hi:i<ps.length
    ·obtain⟨v,hv,rv⟩:=l.getP (zzg hi)
     have e1:ps.getD i .non=ps[i]:=by simp [hi]
     have e2:vs.getD i V.non=v:=by simp [hv]
     rw [e1,e2];exact rv
    ·have e1:ps.getD i .non=.non:=by simp [Nat.le_of_not_lt hi]
     have e2:vs.getD i V.non=.non:=by simp [Nat.le_of_not_lt (l.length▸hi)]
     rw [e1,e2];exact .n
  exact go _
theorem f9:∀{vs:List V} {nss:List (List Int)} {G:Hp},aF G H→Paired (fun v ns=>∃b,v=V.ref b∧H b=some (.tup (ns.map V.int))) vs nss→∃G',aJ W G H G' H∧ak W G' (nss.map aq) vs
 |_,_,G,sg,.nil=>⟨G,.refl sg,.nil⟩
 |_,_,G,sg,.cons (b:=ns) h t=>by
  obtain⟨b,rfl,hb⟩:=h
  have g1:=aJ.adopt (W:=W) sg hb
  obtain⟨G2,g2,l⟩:=f9 g1.sub t
  refine⟨G2,g1.trans g2,.cons (Rep.same g2.g _ ?_) l⟩;refine .t (.inl av) ?_;have go:∀ns:List Int,ak W (upd G b (.tup (ns.map V.int))) (ns.map .int) (ns.map V.int)∧True:=fun _=>⟨by
   rename_i wA;have all:∀(G':Hp) (l:List Int),ak W G' (l.map .int) (l.map V.int):=fun G' l=>by
    induction l with
    |nil=>exact .nil
    |cons x l ih=>exact .cons .i ih
   exact all _ _,trivial⟩
  exact(go ns).1
theorem om(hK:W.K=X.K)(hc:X.calm=true):cT X (.builtin "sorted") (yX W ip):=by
 intro pins s σ H xs us Q I r h;obtain⟨H0,G,ps,rr,sg,tp,e,wq⟩:=h
 unfold ip at e;split at e
 ·split at e
  ·rename_i ks oJ hb;rw [zza,decide_eq_true_eq] at hb;cases e;obtain⟨v,rfl,t⟩:=gr tp
   obtain⟨a,us',rfl,n,hd,l⟩:=t.dct sg
   refine n9 hc pins s σ H _ us Q I r ⟨a,_,ks,rfl,hd,nZ n,fun ns hm z=>?_,by rw [eK n];exact hb.1,fun p vs hp pv=>?_⟩
   ·have:=List.all_eq_true.mp hb.2 ns hm
    rw [z] at this;exact absurd this (by decide)
   ·obtain⟨G1,g1,l1⟩:=f9 (W:=W) sg pv
    exact wq _ _ _ (g1.trans (.new g1.sub hp)) (.l (.inl (.inl av)) (ak.same (bD (g1.sub.free hp)) _ (Cf l1)))
  ·cases e
 ·cases e
theorem x8{K:PySem.W.Frag}(hK:W.K=K)(sg:aF G H):∀{xs:List PV} {ps:List (List Int×PV)} {vs:List V},lC xs=some ps→ak W G xs vs→∃us,ak W G (ps.map (·.2)) us∧iQ K H vs ((ps.map fun p=>ki p.1).zip us)
 |[],_,_,e,l=>by cases e;simp only [ak] at l;subst l;exact⟨[],.nil,.nil⟩
 |x::xs,ps,vs,e,l=>by
  obtain⟨v,vr,rfl,h1,h2⟩:=l.uncons
  unfold lC at e;split at e
  ·rename_i heq;cases heq
  ·rename_i heq;cases heq;obtain⟨k,hk,e⟩:=Option.bind_eq_some_iff.mp e
   obtain⟨r,hr,rfl⟩:=Option.map_eq_some_iff.mp e
   obtain⟨us,l2,p2⟩:=x8 hK sg hr h2
   simp only [Rep] at h1;obtain⟨q,ws,rfl,tq,lq⟩:=h1
   obtain⟨w1,wr,rfl,k1,lq⟩:=lq.uncons
   obtain⟨w2,wr2,rfl,k2,lq⟩:=lq.uncons
   simp only [ak] at lq;subst lq;rw [fU hk] at k1;obtain⟨b,rfl,hb⟩:=sV k1
   refine⟨w2::us,.cons k2 l2,.cons ⟨q,b,rfl,?_,by rw [nX];exact sg _ _ hb⟩ p2⟩;rw [←hK];exact aF.tup sg tq.sq
  ·cases e
theorem lR:∀(ps:List (List Int×PV)) {us:List V} {ks:List (List Int)} {qs:List PV} {ws:List V},ak W G (ps.map (·.2)) us→ks.length=ws.length→ak W G qs ws→∃zs,(bF ps ks qs).1.length=zs.length∧ak W G (bF ps ks qs).2 zs∧gy (kz ks ws) ((ps.map fun p=>ki p.1).zip us)=kz (bF ps ks qs).1 zs
 |[],us,ks,qs,ws,_,n,l=>⟨ws,n,l,rfl⟩
 |p::ps,us,ks,qs,ws,lu,n,l=>by
  obtain⟨u,ur,rfl,h1,h2⟩:=lu.uncons
  obtain⟨zs,z1,z2,z3⟩:=lR ps h2 (j4 n p.1 u) (m8 (ks:=ks) (k:=p.1) l h1)
  refine⟨zs,z1,z2,?_⟩;show gy (putK (kz ks ws) (ki p.1) u) _=_
  rw [rV n];exact z3
theorem pq(hK:W.K=X.K)(hc:X.calm=true)(hu:X.A.units+64<cLine):cT X (.type "dict") (yX W pR):=by
 intro pins s σ H xs us Q I r h;obtain⟨H0,G,ps,rr,sg,tp,e,wq⟩:=h
 unfold pR at e;split at e
 ·obtain⟨ps,hp,e⟩:=Res.bind_ok e
  cases e;obtain⟨v,rfl,t⟩:=gr tp
  obtain⟨a,vs,rfl,h1,l1⟩:=t.lst sg
  obtain⟨ws,lw,pw⟩:=x8 hK sg (Res.of_ok hp) l1
  obtain⟨zs,z1,z2,z3⟩:=lR ps (ks:=[]) (qs:=[]) (ws:=[]) lw rfl .nil
  refine qP hc (by omega) pins s σ H _ us Q I r ⟨a,vs,_,rfl,dW hK h1,pw,fun p o hn=>?_⟩
  have OD:gy [] ((ps.map fun p=>ki p.1).zip ws)=kz (bF ps [] []).1 zs:=z3
  rw [OD];refine wq _ _ _ (.new sg hn) ?_;simp only [Rep];exact⟨p,o,zs,rfl,z1,av,ak.same (bD (sg.free hn)) _ z2⟩
 ·cases e
end
end Ci
namespace L2
open PySem PySem.Spec PyProof.Rows
section
variable{X:Cx}{scope:Scope}{xs ys:List Str}{is:List Nat}
theorem mQ{i₀:Nat}{x₀:Str}{pos' fc:Pos}{elt tg iter DG:Expr}{pos:Pos}{wi:TI}{g:TG}{te:TE}{tt:TT}(hN₀:X.N.Nodup)(hi₀:X.N[i₀]?=some x₀)(hx₀:Loc X.env.scope x₀)(hc:X.calm=true)(S:dQ X scope xs ys is)(hi:PI X tg iter wi)
 (hg:∀fp s1 H1 C,PG (bW X (xs++ys) scope (bJ X.env ys) fp s1 H1 C) tg g) (ht:∀fp s1 H1 C,PT (bW X (xs++ys) scope (bJ X.env ys) fp s1 H1 C) DG tt) (he:∀fp s1 H1 C,PE (bW X (xs++ys) scope (bJ X.env ys) fp s1 H1 C) elt te)
 (v5:swapsWith (.ListComp elt [⟨tg,iter,[DG],0⟩] scope pos) (some (.Name x₀ pos')) fc.line X.env=pure true:=by rfl)
 (hs:∀x,foldedSetIterable iter X.env x=pure x:=by intro _;rfl) (hf₀:X.fn x₀=true∨X.env.scope.names.lookup x₀=some .local:=by first|exact .inl rfl|exact .inr rfl|assumption):
 PS X (.Assign [.Name x₀ pos'] (.ListComp elt [⟨tg,iter,[DG],0⟩] scope pos) fc) (B0 (i8 wi xs.length g tt te is) (fM i₀)):=by
 intro pins s σ H D₀ I h;rw [exec_Assign_Name_used _ _ _ _ v5];refine wpAny_bind (wpAny_standAt (wpAny_bind ?_));show wpAny _ X.A (do let _←comprehension (.ListComp elt [⟨tg,iter,[DG],0⟩] scope pos) scope X.env _ (newList []) false (eval iter X.env) (some (assign (.Name x₀ pos') X.env))) _ _ s;refine wpAny_bind (wpAny_mono (fX (QQ:=fun _ s'=>∃σ2 H2,Inv X pins σ2 H2 s'∧D₀.nx σ2 H2) (Q:=fun v H4=>fM i₀ v σ H4 D₀.nx) hc S hi hg (fun fp s1 H1 C=>sQ (ht fp s1 H1 C)) he hs I h fun D C s4 H4 m I5 hn ⟨g0,g1,_,g3,g4,g5⟩ q=>?_) (fun _ s' hq=>wpAny_pure (wpAny_pure hq)) fun _ _ e=>e)
 refine wpAny_assign_Name (iw I5 hN₀ hi₀ hx₀ (show RelV (.ref D) (.ref D) from rfl) (fun s6 I6 ⟨a6,sb6,ha6⟩=>?_) hf₀);have xY:C≠a6:=by
  rcases ha6 with z|z
  ·rw [z];exact g1
  ·exact fun z2=>g4 _ _ z z2.symm
 exact⟨m,hn.sameBut sb6 xY,fun h' vI=>⟨_,_,I6.turned (t':=s6.toks) (it:=C) (fun b o hb e=>vI.extBut b o hb e) g0 g1 g3 g4 g5,q⟩⟩
end
end L2
namespace L2
open PySem PySem.Spec PyProof.Rows
open PySem.AutoSeq1 (wpAny_loadPart')
section
variable{prog:Program}{w:World}{A:Around}{E:Value→Shared→Prop}{s:Shared}{jt tu:Addr}{i:Nat}{aD:Array Value}{Q:Value→Shared→Prop}
theorem i5{x:Value}(ih:s.heap.IsTupleIter jt tu i)(th:s.heap.IsTuple tu aD)(hx:aD[i]?=some x)
 (k:∀g,g.IsTupleIter jt tu (i+1)→Heap.SameBut jt s.heap g→Q x {s with heap:=g}):wpAny (model prog w) A (Builtin.SmallTypes.nextOf (.ref jt)) Q E s:=by
 obtain⟨ob,e1,e2,e3⟩:=id ih
 obtain⟨ot,f1,_,nn,f2⟩:=th
 unfold Builtin.SmallTypes.nextOf;refine wpAny_bind (wpAny_callSpecial?_slot (name:=Str.ofString "__next__") ih.typeIs F.slot_tuple_iterator_next (wpAny_call_entry F.slot_tuple_iterator_next ih.typeIs F.entry_tuple_iterator_next ?_ (F.args_tuple_iterator_next_1 _)));show wpAny _ _ (field (.ref jt) 0>>=_) _ _ s;refine wpAny_bind (wpAny_field e1 e3 (x:=.ref tu) rfl ?_);show wpAny _ _ (if(Value.ref tu==Value.none)=true then _ else _) _ _ s;rw [if_neg (show¬((Value.ref tu==Value.none)=true) from zzf)];show wpAny _ _ (field (.ref jt) 1>>=_) _ _ s;refine wpAny_bind (wpAny_field e1 e3 (x:=.int i 0) rfl ?_);show wpAny _ _ (seqItems? (.ref tu)>>=_) _ _ s;refine wpAny_bind (wpAny_seqItems f1 f2 ?_);simp only [Int.toNat_natCast,hx];refine wpAny_bind (wpAny_setField e1 e3 (by simp) (wpAny_pure ⟨x,rfl,wpAny_pure (k _ ?_ (Heap.SameBut.update ..))⟩));exact⟨_,Heap.get?_update_self _ e1 (Obj.isFreed_of_fields (Obj.data_mapFields e3 _)),(Obj.cls_mapFields ..).trans e2,by rw [Obj.data_mapFields e3];simp [rawInt]⟩
theorem kg(hh:A.handled=none)(ih:s.heap.IsTupleIter jt tu i)(th:s.heap.IsTuple tu aD)(hx:aD[i]?=none)
 (k:∀g e,Heap.ExtBut jt s.heap g→(∃o,g.get? e=some o∧o.cls=.type "StopIteration")→E (.ref e) {s with heap:=g}):wpAny (model prog w) A (Builtin.SmallTypes.nextOf (.ref jt)) Q E s:=by
 obtain⟨ob,e1,e2,e3⟩:=id ih
 obtain⟨ot,f1,_,nn,f2⟩:=th
 unfold Builtin.SmallTypes.nextOf;refine wpAny_bind (wpAny_callSpecial?_slot (name:=Str.ofString "__next__") ih.typeIs F.slot_tuple_iterator_next (wpAny_call_entry F.slot_tuple_iterator_next ih.typeIs F.entry_tuple_iterator_next ?_ (F.args_tuple_iterator_next_1 _)));show wpAny _ _ (field (.ref jt) 0>>=_) _ _ s;refine wpAny_bind (wpAny_field e1 e3 (x:=.ref tu) rfl ?_);show wpAny _ _ (if(Value.ref tu==Value.none)=true then _ else _) _ _ s;rw [if_neg (show¬((Value.ref tu==Value.none)=true) from zzf)];show wpAny _ _ (field (.ref jt) 1>>=_) _ _ s;refine wpAny_bind (wpAny_field e1 e3 (x:=.int i 0) rfl ?_);show wpAny _ _ (seqItems? (.ref tu)>>=_) _ _ s;refine wpAny_bind (wpAny_seqItems f1 f2 ?_);simp only [Int.toNat_natCast,hx];refine wpAny_bind (wpAny_rule (wpAny_bind (wpAny_setField e1 e3 (by simp) ?_)));show wpAny _ _ (newExc (.type "StopIteration") []>>=_) _ _ _;refine wpAny_bind ?_;simp only [newExc,newTuple];refine wpAny_bind (wpAny_newObj_type ?_ (by size_fits));refine wpAny_bind (m:=firstArgMember _ _) (wpAny_of_eq (a:=Value.none) (by first|rfl|(simp only [firstArgMember];rfl)) ?_);refine wpAny_newObj_type ?_ (by size_fits);simp only [raiseNew];refine wpAny_bind (wpAny_handled ?_)
 first|rw [show A.in1.handled=none from hh]|rw [hh]
 refine wpAny_bind (wpAny_pure (wpAny_throw ?_));exact k _ _ (((Heap.SameBut.update ..).extBut.push _).push _) ⟨_,Heap.get?_push_size _ rfl,rfl⟩
end
theorem lQ{prog:Program}{w:World}{A:Around}(hh:A.handled=none)(jt tu:Addr)(jg:tu≠jt)(aD:Array Value):
 Draws prog w A jt [jt,tu] aD.size (fun i v=>aD[i]?=some v) (fun i h=>h.IsTupleIter jt tu i∧h.IsTuple tu aD) where
 live:=fun _ _ st=>let⟨o,ho,_⟩:=st.1;⟨o,ho⟩
 frame:=fun _ _ _ st hk=>⟨st.1.at fun o e=>hk jt (by simp) o e,by obtain⟨o,e,r⟩:=st.2;exact⟨o,hk tu (by simp) o e,r⟩⟩
 item:=fun i s Q E hi st hQ=>i5 st.1 st.2 (x:=aD[i]) (by simp [hi]) fun g ig sb=>hQ _ g s.toks (by simp [hi]) ⟨ig,by obtain⟨o,e,r⟩:=st.2;exact⟨o,sb.extBut _ _ jg e,r⟩⟩ sb
 done:=fun s Q E st hE=>kg hh st.1 st.2 (by simp) hE
theorem vy(l:Addr)(items:Array Value)(n:Nat)(dct:Option Addr)(sl:Array (Option Value)):
 Meets (Builtin.«enumerate.__new__» ⟨[.type "enumerate",.ref l],[]⟩) (fun _ R s=>s.heap.get? l=some {cls:=.type "tuple",dict:=dct,data:=.seq items n,slots:=sl}∧
  R (.ok (.ret (.ref (s.heap.push {cls:=.type "tuple_iterator",data:=.fields #[.ref l,.int 0 0]}).objs.size)))
   {s with heap:=(s.heap.push {cls:=.type "tuple_iterator",data:=.fields #[.ref l,.int 0 0]}).push {cls:=.type "enumerate",data:=.fields #[.none,.bool false,.ref s.heap.objs.size,rawInt 0,.none,.none]}}):=
 .of_wp fun prog w A R s h=>by
  obtain⟨hp,g,d,tk,os⟩:=s
  obtain⟨hl,h⟩:=h
  have NF:=sub_enumerate
  have hL:Heap.IsTuple (Shared.heap ⟨hp,g,d,tk,os⟩) l items:=⟨_,hl,rfl,n,rfl⟩
  wp_walk using wpAny_loadPart' hl
  refine wpAny_stack_any fun st=>wpAny_pure ?_
  split
  ·rename_i c _ _ _ _ _;cases(c==Value.type "enumerate")<;>(wp_walk using wpAny_loadPart' hl,wpAny_pyIter_tuple hL;exact⟨_,rfl,h⟩)
  ·wp_walk using wpAny_loadPart' hl,wpAny_pyIter_tuple hL
   exact⟨_,rfl,h⟩
end L2
namespace L2
open PySem PySem.Spec PyProof.Rows
theorem eP{h:Heap}{a b:Addr}{o1 o2:Obj}(h1:h.get? a=some o1)(h2:h.get? b=some o2)(hc:o1.cls≠o2.cls):a≠b:=fun z=>by
 subst z;rw [h1] at h2;cases h2;exact hc rfl
theorem dP(z:Str):strIterType z="str_ascii_iterator"∨strIterType z="str_iterator":=by
 unfold strIterType;split
 ·exact .inl rfl
 ·exact .inr rfl
theorem iu{X:Cx}{pins:List (Addr×Obj)}{σ:St}{H:Hp}{s:Shared}{E:Value→Shared→Prop}{e it:Addr}{MT:List Addr}{n i:Nat}{Pv:Nat→Value→Prop}{Sv:Nat→Heap→Prop}{old:Value}{Gx:V→Prop}{elts:List Expr}{x1:Nat}{pos:Pos}
 (I:Inv X pins σ H s) (D:Draws X.prog X.w X.A.in1 it MT n Pv Sv) (he:IsEnum s.heap e it i old) (dm:Sv i s.heap) (cq:i<n) (jg:e≠it) (Md:e∉MT) (hf:∀b∈[e,it],eo X pins H b) (hP:∀u,Pv i u→∃x,RelV x u∧Gx x):
 wpAny (model X.prog X.w) X.A (pyNext (.ref e)) (fun r s1=>∃u,r=some u∧wpAny (model X.prog X.w) X.A (letOwnedTupleGo (.Tuple elts x1 pos) (.ref e) u) (fun _ s2=>∃x p,u=.ref p∧Gx x∧H p=none∧e≠p∧it≠p∧
  Inv X pins σ (upd H p (.tup [.int i,x])) s2∧(∃Kr,IsEnum s2.heap e it ((i:Int)+1) Kr)∧Sv (i+1) s2.heap) E s1) E s:=by
 refine wpAny_pyNext_enum_itemD D he dm cq jg Md fun u h' tk pu ho gW ht hz kk=>?_
 obtain⟨x,rx,gx⟩:=hP u pu
 obtain⟨f0,f1,f2,f3,f4,f5⟩:=hf e (by simp)
 obtain⟨g0,g1,g2,g3,g4,g5⟩:=hf it (by simp)
 have AA:H s.heap.objs.size=none:=I.hok.fresh (Nat.le_refl _)
 obtain⟨oi,hoi⟩:=D.live _ _ dm
 have Mo:e≠s.heap.objs.size:=Nat.ne_of_lt (Heap.lt_size he)
 have Oy:it≠s.heap.objs.size:=Nat.ne_of_lt (Heap.lt_size hoi)
 have AN:∀b o,H b=some o→b≠e∧b≠it∧b≠s.heap.objs.size:=fun b o q=>⟨(fun z=>(by rw [z,f0] at q;cases q)),(fun z=>(by rw [z,g0] at q;cases q)),Nat.ne_of_lt (I.hok.lt q)⟩
 have I1:Inv X pins σ (upd H s.heap.objs.size (.tup [.int i,x])) {s with heap:=h',toks:=tk+1}:=by
  refine I.step (g':=s.gens) (d':=s.drawn) (ch:=[e,it]) (fun b hb=>?_) (fun b o _ _ hc q _=>kk b o (fun z=>hc (by simp [z])) (fun z=>hc (by simp [z])) q)
   (fun b o _ _ hc q _=>⟨o.slots,kk b o (fun z=>hc (by simp [z])) (fun z=>hc (by simp [z])) q⟩) (fun b o _ q nb=>by rw [ag (Nat.ne_of_lt (Heap.lt_size q))];exact nb)
   (fun b o hc q=>⟨o,kk b o (fun z=>hc (by simp [z])) (fun z=>hc (by simp [z])) q⟩) (fun b xs q=>by rw [ag (AN b _ q).2.2];exact q) (fun b o u q=>by rw [ag (AN b _ q).2.2];exact q)
   (fun b ps q=>⟨#[],by rw [ag (AN b _ q).2.2,q];simp⟩) (fun m hm=>?_) (fun b o q=>?_) I.bare
  ·rcases List.mem_cons.mp hb with z|z
   ·subst z;exact⟨f3,f1,f4,f5⟩
   ·rw [List.mem_singleton.mp z];exact⟨g3,g1,g4,g5⟩
  ·obtain⟨o,es,ep,q,r⟩:=hm
   exact⟨o,es,ep,kk _ o (Ne.symm f1) (Ne.symm g1) q,r⟩
  ·by_cases hb:b=s.heap.objs.size
   ·subst hb;rw [av] at q;cases q;exact⟨(show 2≤sizeLine by decide),[.int i tk,u],.cons ⟨tk,rfl⟩ (.cons rx .nil),⟨_,ht,rfl,_,rfl⟩⟩
   ·rw [ag hb] at q;refine(I.hok b o q).stay (fun c v hc z=>kk c v ?_ ?_ z) (fun c z=>by rw [ag (AN c _ z).2.2];exact z) fun c xs z=>by rw [ag (AN c _ z).2.2];exact z
    ·rcases hc with z'|z'
     ·rw [z'];exact(AN b o q).1
     ·exact(AN c _ z').1
    ·rcases hc with z'|z'
     ·rw [z'];exact(AN b o q).2.1
     ·exact(AN c _ z').2.1
 refine⟨_,rfl,wpAny_letOwnedTupleGo_enum ho fun h2 Ek sb=>?_⟩
 refine⟨x,s.heap.objs.size,rfl,gx,AA,Mo,Oy,I1.turned (t':=tk+1) (it:=e) (fun b o hb q=>sb.extBut b o hb q) (by rw [ag Mo];exact f0) f1 f3 f4 f5,⟨_,Ek⟩,D.frame _ _ _ gW fun b hb o q=>sb.extBut b o (fun z=>Md (z▸hb)) q⟩
noncomputable def JR(K:PySem.W.Frag)(a:Addr)(xs:List V):It:=
 ⟨fun i H=>eJ K H a xs∧i<xs.length,fun i H v H'=>∃p x,v=.ref p∧H p=none∧H'=upd H p (.tup [.int (i:Nat),x])∧xs[i]?=some x,fun i H=>eJ K H a xs∧i=xs.length⟩
noncomputable def Jv(z:Str):It:=
 ⟨fun i _=>i<z.cps.size,fun i H v H'=>∃p c,v=.ref p∧H p=none∧H'=upd H p (.tup [.int (i:Nat),.str ⟨#[c]⟩])∧z.cps[i]?=some c,fun i _=>i=z.cps.size⟩
theorem rJ{P:Program}{w:World}{K:PySem.W.Frag}{elts:List Expr}{x1:Nat}{pos:Pos}(a e it:Addr)(xs:List V):Turn P w K (.Tuple elts x1 pos) (JR K a xs) [e,it] e (fun i h=>(∃old,IsEnum h e it i old)∧h.IsTupleIter it a i) where
 mem:=by simp
 obj:=fun i h st b hb=>by
  obtain⟨⟨old,he⟩,o,ho,_,hd⟩:=st
  rcases List.mem_cons.mp hb with z|z
  ·subst z;exact⟨_,he,fun v q=>by cases q⟩
  ·rw [List.mem_singleton.mp z];exact⟨o,ho,fun v q=>by rw [hd] at q;cases q⟩
 keep:=fun i h h' st k=>⟨by obtain⟨old,he⟩:=st.1;exact⟨old,k e (by simp) _ he⟩,st.2.at fun o q=>k it (by simp) o q⟩
 item:=by
  intro X hP hw hK hc i pins s σ H E I hf st hg;subst hP hw hK;obtain⟨hq,cq⟩:=hg
  obtain⟨⟨old,he⟩,hit⟩:=st
  obtain⟨aD,rv,p,hz⟩:=I.tuple hq
  have hl:=rv.length
  have iY:=hit
  obtain⟨oi,e1,e2,_⟩:=hit
  obtain⟨oa,a1,a2,_⟩:=id p
  have xY:a≠it:=eP a1 e1 (by rw [a2,e2];decide+kernel)
  have CQ:e≠it:=eP he e1 (by rw [e2];show Value.type "enumerate"≠_;decide+kernel)
  have Fh:e≠a:=eP he a1 (by rw [a2];show Value.type "enumerate"≠_;decide+kernel)
  refine bR (iu (Gx:=fun x=>xs[i]?=some x) I (lQ (A:=X.A.in1) (I.ok.hd hc) it a xY aD.toArray) he ⟨iY,p⟩ (by rw [List.size_toArray];omega) CQ (by simp [CQ,Fh]) hf (fun u hu=>?_)) fun r s1 ⟨u,hr,k⟩=>⟨u,hr,bR k fun _ s2 ⟨x,q,z1,z2,z3,z4,z5,z6,z7,z8⟩=>?_⟩
  ·have IB:xs[i]?=some xs[i]:=zzg cq
   obtain⟨u',hu',ru'⟩:=rv.get IB
   have:aD.toArray[i]?=some u':=by simpa using hu'
   have Ei:aD.toArray[i]?=some u:=hu
   rw [this] at Ei;cases Ei;exact⟨xs[i],ru',IB⟩
  ·exact⟨.ref q,_,z6,z1.symm▸rfl,⟨q,x,rfl,z3,rfl,z2⟩,⟨z7,z8.1⟩,fun b hb=>by
    rcases List.mem_cons.mp hb with w|w
    ·rw [w,ag z4];exact(hf e (by simp)).1
    ·rw [List.mem_singleton.mp w,ag z5];exact(hf it (by simp)).1⟩
 done:=by
  intro X hP hw hK hc i pins s σ H E I hf st hg;subst hP hw hK;obtain⟨hq,rfl⟩:=hg
  obtain⟨⟨old,he⟩,hit⟩:=st
  obtain⟨aD,rv,p,hz⟩:=I.tuple hq
  have hl:=rv.length
  have iY:=hit
  obtain⟨oi,e1,e2,_⟩:=hit
  obtain⟨oa,a1,a2,_⟩:=id p
  have xY:a≠it:=eP a1 e1 (by rw [a2,e2];decide+kernel)
  obtain⟨g0,g1,g2,g3,g4,g5⟩:=hf it (by simp)
  refine wpAny_pyNext_enum_endD (lQ (A:=X.A.in1) (I.ok.hd hc) it a xY aD.toArray) he ⟨by rw [List.size_toArray,←hl];exact iY,p⟩ fun h' eb=>⟨rfl,I.turned (t':=s.toks) (fun b o hb q=>eb b o hb q) g0 g1 g3 g4 g5⟩
 self:=fun _ _ _ _ _ st h=>by obtain⟨⟨old,he⟩,_⟩:=st;exact wpAny_pyIter_enum he h
end L2
namespace L2
open PySem PySem.Spec PyProof.Rows
theorem lh{prog:Program}{w:World}{A:Around}{E:Value→Shared→Prop}{s:Shared}{l:Addr}{items:Array Value}{Q:Value→Shared→Prop}(hL:IsTup s.heap l items)
 (h:∀g,IsEnum g (s.heap.objs.size+1) s.heap.objs.size 0 .none→g.IsTupleIter s.heap.objs.size l 0→(∀b o,s.heap.get? b=some o→g.get? b=some o)→Q (.ref (s.heap.objs.size+1)) {s with heap:=g}):
 wpAny (model prog w) A (call (.type "enumerate") [.ref l]) Q E s:=by
 obtain⟨⟨cls,dd,data,sl⟩,ho,hc,n,hd⟩:=id hL
 simp only at hc hd;subst hc hd;have hz:(s.heap.push {cls:=.type "tuple_iterator",data:=.fields #[.ref l,.int 0 0]}).objs.size=s.heap.objs.size+1:=Heap.size_push ..
 refine callType_new F.called_enumerate (by decide) (F.typeCall_enumerate_1 _) (F.newCall_enumerate_1 _) (fun obj=>F.args_object_init_2 obj _) F.entry_enumerate_new (vy l items n dd sl) ⟨ho,?_⟩;show _∧_;rw [hz];have he:IsEnum ((s.heap.push {cls:=.type "tuple_iterator",data:=.fields #[.ref l,.int 0 0]}).push {cls:=.type "enumerate",data:=.fields #[.none,.bool false,.ref s.heap.objs.size,rawInt 0,.none,.none]}) (s.heap.objs.size+1) s.heap.objs.size 0 .none:=by
  have q:=Heap.get?_push_size (s.heap.push {cls:=.type "tuple_iterator",data:=.fields #[.ref l,.int 0 0]}) (o:={cls:=.type "enumerate",data:=.fields #[.none,.bool false,.ref s.heap.objs.size,rawInt 0,.none,.none]}) rfl
  rw [hz] at q;exact q
 exact⟨⟨_,he,rfl⟩,h _ he ⟨_,Heap.get?_push_of_some _ (Heap.get?_push_size _ rfl),rfl,rfl⟩ fun b o x=>Heap.get?_push_of_some _ (Heap.get?_push_of_some _ x)⟩
section
variable{X:Cx}{elts:List Expr}{x1:Nat}{jx:Pos}
noncomputable def KN(K:PySem.W.Frag)(ta:TA):TI:=fun σ H R=>ta σ H fun vs H1=>∃a xs,vs=[.ref a]∧eJ K H1 a xs∧R (JR K a xs) H1
theorem xV{a:Expr}{ta:TA}{p pos:Pos}(hg:Gl X "enumerate")(hm:X.mg "enumerate"=none)(ha:PA X [a] ta)(hs:starEach [a] X.env=[(false,eval a X.env)]:=by rfl):PI X (.Tuple elts x1 jx) (.Call (.Name "enumerate" p) [a] [] pos) (KN X.K ta):=by
 intro pins s σ H R I h;refine Call_ (eU I hg hm boot_enumerate (PyProof.Rows.callWith_type1 (bR (ha pos pins s σ H _ I h) fun us s1 ⟨vs,H1,I1,r1,q1⟩=>?_) hs rfl))
 obtain⟨a,xs,e,hq,q⟩:=q1
 subst e;obtain⟨u,rfl,ru⟩:=vals1 r1
 cases ru;obtain⟨aD,rv,pt,hz⟩:=I1.tuple hq
 refine lh pt fun g he hi kp=>wpAny_pyIter_enum he ?_
 have I2:Inv X pins σ H1 {s1 with heap:=g}:=I1.kept (t':=s1.toks) kp
 refine⟨s1.heap.objs.size+1,[s1.heap.objs.size+1,s1.heap.objs.size],_,_,H1,rfl,I2,rJ a _ s1.heap.objs.size xs,⟨⟨_,he⟩,hi⟩,fun b hb=>?_,q⟩
 have lB:s1.heap.objs.size≤b:=by
  rcases List.mem_cons.mp hb with z|z
  ·rw [z];exact Nat.le_succ _
  ·rw [List.mem_singleton.mp z];exact Nat.le_refl _
 exact I1.fpOk lB (I1.hok.fresh lB)
end
theorem qZ{P:Program}{w:World}{K:PySem.W.Frag}{elts:List Expr}{x1:Nat}{pos:Pos}(z:Str)(t:Tok)(e it:Addr):Turn P w K (.Tuple elts x1 pos) (Jv z) [e,it] e (fun i h=>(∃old,IsEnum h e it i old)∧h.IsStrIter it (strIterType z) z t i) where
 mem:=by simp
 obj:=fun i h st b hb=>by
  obtain⟨⟨old,he⟩,o,ho,_,hd⟩:=st
  rcases List.mem_cons.mp hb with q|q
  ·subst q;exact⟨_,he,fun v q=>by cases q⟩
  ·rw [List.mem_singleton.mp q];exact⟨o,ho,fun v q=>by rw [hd] at q;cases q⟩
 keep:=fun i h h' st k=>⟨by obtain⟨old,he⟩:=st.1;exact⟨old,k e (by simp) _ he⟩,by obtain⟨o,q,r⟩:=st.2;exact⟨o,k it (by simp) o q,r⟩⟩
 item:=by
  intro X hP hw hK hc i pins s σ H E I hf st hg;subst hP hw hK;have cq:i<z.cps.size:=hg
  obtain⟨⟨old,he⟩,hit⟩:=st
  have iY:=hit
  obtain⟨oi,e1,e2,_⟩:=hit
  have CQ:e≠it:=eP he e1 (by
   rw [e2];show Value.type "enumerate"≠_;rcases dP z with q|q<;>rw [q]<;>decide+kernel)
  have fin:∀{Sv:Nat→Heap→Prop},Draws X.prog X.w X.A.in1 it [it] z.cps.size (fun i v=>∃c u,z.cps[i]?=some c∧v=.str ⟨#[c]⟩ u) Sv→Sv i s.heap→(∀h,Sv (i+1) h→h.IsStrIter it (strIterType z) z t (i+1))→
   wpAny (model X.prog X.w) X.A (pyNext (.ref e)) (fun r s1=>∃u,r=some u∧wpAny (model X.prog X.w) X.A (letOwnedTupleGo (.Tuple elts x1 pos) (.ref e) u) (fun _ s2=>∃x H',Inv X pins σ H' s2∧RelV x u∧(Jv z).yld i H x H'∧((∃old,IsEnum s2.heap e it (((i+1:Nat)):Int) old)∧s2.heap.IsStrIter it (strIterType z) z t (i+1))∧∀b∈[e,it],H' b=none) E s1) E s:=by
   intro Sv D dm back;refine bR (iu (Gx:=fun x=>∃c,x=.str ⟨#[c]⟩∧z.cps[i]?=some c) I D he dm cq CQ (by simp [CQ]) hf (fun u ⟨c,tk,hc,hu⟩=>⟨.str ⟨#[c]⟩,⟨tk,hu⟩,c,rfl,hc⟩)) fun r s1 ⟨u,hr,k⟩=>⟨u,hr,bR k fun _ s2 ⟨x,q,z1,⟨c,z2,m5⟩,z3,z4,z5,z6,z7,z8⟩=>?_⟩
   subst z2;exact⟨.ref q,_,z6,z1.symm▸rfl,⟨q,c,rfl,z3,rfl,m5⟩,⟨z7,back _ z8⟩,fun b hb=>by
    rcases List.mem_cons.mp hb with w|w
    ·rw [w,ag z4];exact(hf e (by simp)).1
    ·rw [List.mem_singleton.mp w,ag z5];exact(hf it (by simp)).1⟩
  rcases dP z with q|q
  ·rw [q] at iY⊢;rw [q] at fin;exact fin (Draws.strAscii (A:=X.A.in1) (I.ok.hd hc) it z t) iY fun h st=>st
  ·rw [q] at iY⊢;rw [q] at fin;exact fin (Draws.strWide (A:=X.A.in1) (I.ok.hd hc) it z t) iY fun h st=>st
 done:=by
  intro X hP hw hK hc i pins s σ H E I hf st hg;subst hP hw hK;have hi:i=z.cps.size:=hg
  subst hi;obtain⟨⟨old,he⟩,hit⟩:=st
  obtain⟨g0,g1,g2,g3,g4,g5⟩:=hf it (by simp)
  rcases dP z with q|q
  ·rw [q] at hit;exact wpAny_pyNext_enum_endD (Draws.strAscii (A:=X.A.in1) (I.ok.hd hc) it z t) he hit fun h' eb=>⟨rfl,I.turned (t':=s.toks) (fun b o hb q=>eb b o hb q) g0 g1 g3 g4 g5⟩
  ·rw [q] at hit;exact wpAny_pyNext_enum_endD (Draws.strWide (A:=X.A.in1) (I.ok.hd hc) it z t) he hit fun h' eb=>⟨rfl,I.turned (t':=s.toks) (fun b o hb q=>eb b o hb q) g0 g1 g3 g4 g5⟩
 self:=fun _ _ _ _ _ st h=>by obtain⟨⟨old,he⟩,_⟩:=st;exact wpAny_pyIter_enum he h
section
variable{X:Cx}{elts:List Expr}{x1:Nat}{jx:Pos}
noncomputable def LH(ta:TA):TI:=fun σ H R=>ta σ H fun vs H1=>∃z,vs=[.str z]∧R (Jv z) H1
theorem zv{a:Expr}{ta:TA}{p pos:Pos}(hg:Gl X "enumerate")(hm:X.mg "enumerate"=none)(ha:PA X [a] ta)(hs:starEach [a] X.env=[(false,eval a X.env)]:=by rfl):PI X (.Tuple elts x1 jx) (.Call (.Name "enumerate" p) [a] [] pos) (LH ta):=by
 intro pins s σ H R I h;refine Call_ (eU I hg hm boot_enumerate (PyProof.Rows.callWith_type1 (bR (ha pos pins s σ H _ I h) fun us s1 ⟨vs,H1,I1,r1,q1⟩=>?_) hs rfl))
 obtain⟨z,e,q⟩:=q1
 subst e;obtain⟨u,rfl,t,rfl⟩:=vals1 r1
 refine call_enumerate_str fun g he hi hz kp=>wpAny_pyIter_enum he ?_
 have I2:Inv X pins σ H1 {s1 with heap:=g}:=I1.kept (t':=s1.toks) kp
 refine⟨s1.heap.objs.size+1,[s1.heap.objs.size+1,s1.heap.objs.size],_,_,H1,rfl,I2,qZ z t _ s1.heap.objs.size,⟨⟨_,he⟩,hi⟩,fun b hb=>?_,q⟩
 have lB:s1.heap.objs.size≤b:=by
  rcases List.mem_cons.mp hb with z|z
  ·rw [z];exact Nat.le_succ _
  ·rw [List.mem_singleton.mp z];exact Nat.le_refl _
 exact I1.fpOk lB (I1.hok.fresh lB)
end
end L2
namespace L2
open PySem PySem.Spec PyProof.Rows
noncomputable def E6(K:PySem.W.Frag)(a:Addr)(xs:List V):It:=
 ⟨fun i H=>gk K H a xs∧i<xs.length,fun i H v H'=>∃p x,v=.ref p∧H p=none∧H'=upd H p (.tup [.int (i:Nat),x])∧xs[i]?=some x,fun i H=>gk K H a xs∧i=xs.length⟩
theorem rE{P:Program}{w:World}{K:PySem.W.Frag}{elts:List Expr}{x1:Nat}{pos:Pos}(a e it:Addr)(xs:List V):Turn P w K (.Tuple elts x1 pos) (E6 K a xs) [e,it] e (fun i h=>(∃old,IsEnum h e it i old)∧h.IsListIter it a i) where
 mem:=by simp
 obj:=fun i h st b hb=>by
  obtain⟨⟨old,he⟩,o,ho,_,hd⟩:=st
  rcases List.mem_cons.mp hb with z|z
  ·subst z;exact⟨_,he,fun v q=>by cases q⟩
  ·rw [List.mem_singleton.mp z];exact⟨o,ho,fun v q=>by rw [hd] at q;cases q⟩
 keep:=fun i h h' st k=>⟨by obtain⟨old,he⟩:=st.1;exact⟨old,k e (by simp) _ he⟩,st.2.at fun o q=>k it (by simp) o q⟩
 item:=by
  intro X hP hw hK hc i pins s σ H E I hf st hg;subst hP hw hK;obtain⟨hq,cq⟩:=hg
  obtain⟨⟨old,he⟩,hit⟩:=st
  obtain⟨aD,rv,p,hz⟩:=I.list hq
  have hl:=rv.length
  have iY:=hit
  obtain⟨oi,e1,e2,_⟩:=hit
  obtain⟨oa,a1,a2,_⟩:=p.isList
  have xY:a≠it:=eP a1 e1 (by rw [a2,e2];decide+kernel)
  have CQ:e≠it:=eP he e1 (by rw [e2];show Value.type "enumerate"≠_;decide+kernel)
  have Fh:e≠a:=eP he a1 (by rw [a2];show Value.type "enumerate"≠_;decide+kernel)
  refine bR (iu (Gx:=fun x=>xs[i]?=some x) I (Draws.list (A:=X.A.in1) (I.ok.hd hc) it a xY aD.toArray) he ⟨iY,p.isList⟩ (by rw [List.size_toArray];omega) CQ (by simp [CQ,Fh]) hf (fun u hu=>?_)) fun r s1 ⟨u,hr,k⟩=>⟨u,hr,bR k fun _ s2 ⟨x,q,z1,z2,z3,z4,z5,z6,z7,z8⟩=>?_⟩
  ·have IB:xs[i]?=some xs[i]:=zzg cq
   obtain⟨u',hu',ru'⟩:=rv.get IB
   have:aD.toArray[i]?=some u':=by simpa using hu'
   have Ei:aD.toArray[i]?=some u:=hu
   rw [this] at Ei;cases Ei;exact⟨xs[i],ru',IB⟩
  ·exact⟨.ref q,_,z6,z1.symm▸rfl,⟨q,x,rfl,z3,rfl,z2⟩,⟨z7,z8.1⟩,fun b hb=>by
    rcases List.mem_cons.mp hb with w|w
    ·rw [w,ag z4];exact(hf e (by simp)).1
    ·rw [List.mem_singleton.mp w,ag z5];exact(hf it (by simp)).1⟩
 done:=by
  intro X hP hw hK hc i pins s σ H E I hf st hg;subst hP hw hK;obtain⟨hq,rfl⟩:=hg
  obtain⟨⟨old,he⟩,hit⟩:=st
  obtain⟨aD,rv,p,hz⟩:=I.list hq
  have hl:=rv.length
  have iY:=hit
  obtain⟨oi,e1,e2,_⟩:=hit
  obtain⟨oa,a1,a2,_⟩:=p.isList
  have xY:a≠it:=eP a1 e1 (by rw [a2,e2];decide+kernel)
  obtain⟨g0,g1,g2,g3,g4,g5⟩:=hf it (by simp)
  refine wpAny_pyNext_enum_endD (Draws.list (A:=X.A.in1) (I.ok.hd hc) it a xY aD.toArray) he ⟨by rw [List.size_toArray,←hl];exact iY,p.isList⟩ fun h' eb=>⟨rfl,I.turned (t':=s.toks) (fun b o hb q=>eb b o hb q) g0 g1 g3 g4 g5⟩
 self:=fun _ _ _ _ _ st h=>by obtain⟨⟨old,he⟩,_⟩:=st;exact wpAny_pyIter_enum he h
section
variable{X:Cx}{elts:List Expr}{x1:Nat}{jx:Pos}
noncomputable def JY(K:PySem.W.Frag)(ta:TA):TI:=fun σ H R=>ta σ H fun vs H1=>∃a xs,vs=[.ref a]∧gk K H1 a xs∧R (E6 K a xs) H1
theorem oU{a:Expr}{ta:TA}{p pos:Pos}(hg:Gl X "enumerate")(hm:X.mg "enumerate"=none)(ha:PA X [a] ta)(hs:starEach [a] X.env=[(false,eval a X.env)]:=by rfl):PI X (.Tuple elts x1 jx) (.Call (.Name "enumerate" p) [a] [] pos) (JY X.K ta):=by
 intro pins s σ H R I h;refine Call_ (eU I hg hm boot_enumerate (PyProof.Rows.callWith_type1 (bR (ha pos pins s σ H _ I h) fun us s1 ⟨vs,H1,I1,r1,q1⟩=>?_) hs rfl))
 obtain⟨a,xs,e,hq,q⟩:=q1
 subst e;obtain⟨u,rfl,ru⟩:=vals1 r1
 cases ru;obtain⟨aD,rv,pt,hz⟩:=I1.list hq
 refine call_enumerate_list pt.isList fun g he hi _ kp=>wpAny_pyIter_enum he ?_
 have I2:Inv X pins σ H1 {s1 with heap:=g}:=I1.kept (t':=s1.toks) kp
 refine⟨s1.heap.objs.size+1,[s1.heap.objs.size+1,s1.heap.objs.size],_,_,H1,rfl,I2,rE a _ s1.heap.objs.size xs,⟨⟨_,he⟩,hi⟩,fun b hb=>?_,q⟩
 have lB:s1.heap.objs.size≤b:=by
  rcases List.mem_cons.mp hb with z|z
  ·rw [z];exact Nat.le_succ _
  ·rw [List.mem_singleton.mp z];exact Nat.le_refl _
 exact I1.fpOk lB (I1.hok.fresh lB)
end
end L2
namespace Ci
open PySem L2
structure Hs where
 f:Str
 h:Str
 g:Str
 idx:List Nat
 np:Nat
structure Pg where
 gs:List (Str×PV)
 bs:List Str
 cs:List Str
 fs:List Str
 rs:List Str
 hs:List Hs:=[]
 hl:Bool:=false
def dH(sc:Scope)(x:Str):Bool:=sc.names.lookup x==some .local||sc.names.lookup x==some .cell
def dR(sc:Scope)(x:Str):Bool:=dH sc x||sc.names.lookup x==some .free
def iM(sc:Scope)(x:Str):Bool:=sc.names.lookup x==some .globalImplicit
def litS:List PV→List PV→Bool
 |[],[]=>true
 |.str x::xs,.str y::ys=>x==y&&litS xs ys
 |_,_=>false
def su:PV→PV→Bool
 |.int i,.int j=>i==j
 |.str x,.str y=>x==y
 |.tup xs,.tup ys=>litS xs ys
 |_,_=>false
theorem litS_eq:∀{xs ys:List PV},litS xs ys=true→xs=ys
 |[],[],_=>rfl
 |.str x::xs,.str y::ys,h=>by
  unfold litS at h;rw [zza] at h;rw [beq_iff_eq.mp h.1,litS_eq h.2]
theorem yS{p q:PV}(h:su p q=true):p=q:=by
 unfold su at h;split at h
 ·rw [beq_iff_eq.mp h]
 ·rw [beq_iff_eq.mp h]
 ·rw [litS_eq h]
 ·cases h
def bN:B→Str
 |.len=>"len"|.abs=>"abs"|.max2=>"max"|.int=>"int"|.str=>"str"|.tuple=>"tuple"|.sorted=>"sorted"|.dict=>"dict"
def mN:M→Str
 |.join=>"join"
def ff:E→Bool
 |.tmp _=>false
 |_=>true
def gb:Es→Bool
 |.nil=>true
 |.cons e es=>ff e&&gb es
def B3:I→Bool
 |.seq e=>ff e
 |.rng _=>true
 |.rng2 _ _=>true
 |.enum e=>ff e
def isNil:Es→Bool
 |.nil=>true
 |_=>false
def fR:Es→Nat
 |.nil=>0
 |.cons _ es=>fR es+1
noncomputable def fT(N:List Str)(sc:Scope)(fn:Str→Bool):Tg→Expr→Bool
 |.one i,.Name x _=>N[i]?==some x&&dH sc x&&(fn x||sc.names.lookup x==some .local)
 |.two i j,.Tuple [.Name x _,.Name y _] _ _=>N[i]?==some x&&dH sc x&&(fn x||sc.names.lookup x==some .local)&&(N[j]?==some y&&dH sc y&&(fn y||sc.names.lookup y==some .local))
 |_,_=>false
def aO:Expr→List Str
 |.Name x _=>[x]
 |.Tuple [.Name x _,.Name y _] _ _=>[x,y]
 |_=>[]
def cW(scope sc:Scope):Scope:=
 {scope with names:=scope.names.map fun(n,k)=>if(k==.free&&sc.kind==.function&&sc.names.lookup n==some .cell) then(n,.cell) else(n,k)}
def freeOf(scope:Scope):List Str:=((scope.names.filter fun p=>p.2==.free).map (·.1)).reverse
noncomputable def tX(N:List Str)(sc scope:Scope)(k:Nat)(ba:List Nat)(xs:List Str):Bool:=
 scope.kind==.function&&xs.length==k&&decide ((xs++freeOf scope).Nodup)
 &&(scope.names.all fun y=>(decide (y.2≠.cell)||!(freeOf scope).contains y.1)&&(decide (y.2≠.free)||(freeOf scope).contains y.1))
 &&(scope.names.all fun y=>decide (y.2≠.cell)||decide (scope.names.lookup y.1=some .cell))
 &&(scope.names.all fun y=>decide (y.2≠.local)||decide (scope.names.lookup y.1=some .local))
 &&decide (ba.map (fun i=>N[i]?)=(freeOf scope).map some)
 &&((freeOf scope).all fun y=>decide (sc.names.lookup y=some .cell))
 &&((freeOf scope).all fun y=>decide ((cW scope sc).names.lookup y=some .cell))
def jX(k:Nat):Tg→Bool
 |.one i=>decide (i<k)
 |.two i j=>decide (i<k)&&decide (j<k)
def dI:E→Bool
 |.ite _ _ _=>false
 |.not a=>dI a
 |.and a b=>dI a&&dI b
 |.or a b=>dI a&&dI b
 |_=>true
def isTup:Expr→Bool
 |.Tuple .. =>true
 |_=>false
noncomputable abbrev Pg.nol(Γ:Pg):Pg:={Γ with hl:=false}
mutual
noncomputable def aZ(Γ:Pg)(N:List Str)(sc:Scope):E→Expr→Bool
 |.var i,.Name x _=>N[i]?==some x&&dR sc x&&okN x
 |.tmp i,.Name x _=>N[i]?==some x&&dR sc x&&okN x
 |.cst .non,.Constant .none _ _=>true
 |.cst (.bl b),.Constant (.bool c) _ _=>b==c
 |.cst (.int i),.Constant (.int j) _ _=>i==j
 |.cst (.str z),.Constant (.str y) _ _=>z==y
 |.glob g p,.Name x _=>g==x&&iM sc x&&okN x&&Γ.gs.any fun q=>q.1==g&&su q.2 p
 |.call f as,.Call (.Name g _) args [] _=>f==g&&Γ.fs.contains g&&iM sc g&&okN g&&gb as&&fA Γ N sc as args
 |.callv i as,.Call (.Name x _) args [] _=>N[i]?==some x&&dR sc x&&okN x&&gb as&&!isNil as&&fA Γ N sc as args
 |.callL f as g idx ba,.Call (.Name h _) args [] _=>Γ.hl&&iM sc h&&okN h&&gb as&&!isNil as&&(Γ.hs.any fun q=>q.f==f&&q.h==h&&q.g==g&&q.idx==idx&&decide (q.np=fR as+1))&&uv Γ N sc g idx ba as args
 |.blt b as,.Call (.Name g _) args [] _=>bN b==g&&iM sc g&&Γ.bs.contains g&&!isNil as&&fA Γ N sc as args
 |.ty t a,.Call (.Name g _) [pa,.Name tn _] [] _=>g=="isinstance"&&iM sc g&&Γ.bs.contains g&&tn==Str.ofString (sd t)&&iM sc tn&&Γ.bs.contains tn&&aZ Γ N sc a pa
 |.mth m o as,.Call (.Attribute po attr apos) args [] bC=>mN m==attr&&!isNil as&&decide (fR as<30)&&apos.endLine==bC.line&&aZ Γ N sc o po&&fA Γ N sc as args&&(match po with|.Call .. =>false|_=>true)
 |.bin o a b,.BinOp pa op pb _=>decide (LI o=op)&&aZ Γ N sc a pa&&aZ Γ N sc b pb
 |.cmp o a b,.Compare pa [op] [pb] _=>decide (oH o=op)&&aZ Γ N sc a pa&&aZ Γ N sc b pb
 |.ch o1 o2 a b c,.Compare pa [op1,op2] [pb,pc] _=>decide (oH o1=op1)&&decide (oH o2=op2)&&aZ Γ N sc a pa&&aZ Γ N sc b pb&&aZ Γ N sc c pc
 |.not a,.UnaryOp .Not pa _=>aZ Γ N sc a pa
 |.neg a,.UnaryOp .USub pa _=>aZ Γ N sc a pa
 |.and a b,.BoolOp .And [pa,pb] _=>ff b&&aZ Γ N sc a pa&&aZ Γ N sc b pb
 |.and a b,.BoolOp .And (pa::pb::pc::r) pos=>ff b&&aZ Γ N sc a pa&&aZ Γ N sc b (.BoolOp .And (pb::pc::r) pos)
 |.or a b,.BoolOp .Or [pa,pb] _=>ff b&&aZ Γ N sc a pa&&aZ Γ N sc b pb
 |.or a b,.BoolOp .Or (pa::pb::pc::r) pos=>ff b&&aZ Γ N sc a pa&&aZ Γ N sc b (.BoolOp .Or (pb::pc::r) pos)
 |.ite c a b,.IfExp pc pa pb _=>dI c&&ff a&&ff b&&aZ Γ N sc c pc&&aZ Γ N sc a pa&&aZ Γ N sc b pb
 |.tup as,.Tuple ps _ _=>gb as&&decide (fR as<1000)&&fA Γ N sc as ps
 |.lst as,.List ps _=>gb as&&decide (fR as<1000)&&fA Γ N sc as ps
 |.sub a b,.Subscript pa pb _=>aZ Γ N sc a pa&&aZ Γ N sc b pb
 |.slice a lo hi,.Subscript pa (.Slice pl ph none _) _=>aZ Γ N sc a pa&&Er Γ N sc lo pl&&Er Γ N sc hi ph
 |.comp k ba tg it elt,.ListComp dq [⟨cy,eG,[],asy⟩] scope _=>tX N sc scope k ba (aO cy)&&jX k tg&&ff elt&&uU Γ N sc cy it eG&&fT (aO cy++freeOf scope) (cW scope sc) (jY scope) tg cy&&aZ Γ.nol (aO cy++freeOf scope) (cW scope sc) elt dq&&decide (asy=0)
 |.compIf k ba tg it c elt,.ListComp dq [⟨cy,eG,[pc],asy⟩] scope _=>dI c&&tX N sc scope k ba (aO cy)&&jX k tg&&ff elt&&uU Γ N sc cy it eG&&fT (aO cy++freeOf scope) (cW scope sc) (jY scope) tg cy&&aZ Γ.nol (aO cy++freeOf scope) (cW scope sc) c pc&&aZ Γ.nol (aO cy++freeOf scope) (cW scope sc) elt dq&&decide (asy=0)
 |.rev a,.Subscript pa (.Slice none none (some (.UnaryOp .USub (.Constant (.int i) _ _) _)) _) _=>i==1&&aZ Γ N sc a pa
 |_,_=>false
noncomputable def fA(Γ:Pg)(N:List Str)(sc:Scope):Es→List Expr→Bool
 |.nil,[]=>true
 |.cons e es,p::ps=>aZ Γ N sc e p&&fA Γ N sc es ps
 |_,_=>false
noncomputable def uv(Γ:Pg)(N:List Str)(sc:Scope)(g:Str)(idx ba:List Nat):Es→List Expr→Bool
 |.nil,[.Lambda params body scope _]=>yj g idx params body scope&&decide (ba.map (fun i=>N[i]?)=(bo scope).map some)&&((bo scope).all fun y=>decide (sc.names.lookup y=some .cell))
 |.cons e es,p::ps=>aZ Γ N sc e p&&uv Γ N sc g idx ba es ps
 |_,_=>false
noncomputable def Er(Γ:Pg)(N:List Str)(sc:Scope):Oe→Option Expr→Bool
 |.no,none=>true
 |.some e,some p=>aZ Γ N sc e p
 |_,_=>false
noncomputable def uU(Γ:Pg)(N:List Str)(sc:Scope)(tg:Expr):I→Expr→Bool
 |.seq e,p=>aZ Γ N sc e p
 |.rng e,.Call (.Name g _) [p] [] _=>g=="range"&&iM sc g&&Γ.bs.contains g&&aZ Γ N sc e p
 |.rng2 a b,.Call (.Name g _) [p,q] [] _=>g=="range"&&iM sc g&&Γ.bs.contains g&&aZ Γ N sc a p&&aZ Γ N sc b q
 |.enum e,.Call (.Name g _) [p] [] _=>isTup tg&&g=="enumerate"&&iM sc g&&Γ.bs.contains g&&aZ Γ N sc e p
 |_,_=>false
end
theorem aG{a b:Bool}(h:(a&&b)=true):a=true∧b=true:=Bool.and_eq_true_iff.mp h
theorem bI{α:Type}{o:Option α}{f:α→Bool}(h:o.any f=true):∃x,o=some x∧f x=true:=by
 cases o with
 |none=>cases h
 |some x=>exact⟨x,rfl,h⟩
end Ci
namespace Ci
open PySem L2
def XE(W:Wd)(c:Str)(G1 H1:Hp):XK:=fun Cv ao H'=>∃C a G',Cv=.ref C∧ao=some a∧c∈W.xs∧W.mg c=some (.ref C)∧aJ W G1 H1 G' H'
def rF(X:Cx)(W:Wd)(σ:St)(c:Str)(G H:Hp):Prop:=∀(pins:List (Addr×Obj)) (G1 H1:Hp) (s1:Shared) (e:Value) (s':Shared),Inv X pins σ H1 s1→aJ W G H G1 H1→dy X.prog X.w X.stack H1 s1 (XE W c G1 H1) e s'→X.xe e s'
def Out{α:Type}(X:Cx)(W:Wd)(r:Res α)(σ:St)(G H:Hp)(k:α→Prop):Prop:=match r with
 |.ok a=>k a
 |.exc c=>rF X W σ c G H
 |.bad=>False
section
variable{X:Cx}{W:Wd}{F:aV}{σ:St}{G H G1 H1:Hp}{α β:Type}
theorem rF.grow{c:Str}(h:rF X W σ c G H)(g:aJ W G H G1 H1):rF X W σ c G1 H1:=fun pins G2 H2 s1 e s' I g2 x=>h pins G2 H2 s1 e s' I (g.trans g2) x
theorem Out.grow{r:Res α}{k:α→Prop}(h:Out X W r σ G H k)(g:aJ W G H G1 H1):Out X W r σ G1 H1 k:=by
 cases r with
 |ok a=>exact h
 |exc c=>exact rF.grow h g
 |bad=>exact h
theorem Out.imp{r:Res α}{k k':α→Prop}(h:Out X W r σ G H k)(i:∀a,k a→k' a):Out X W r σ G H k':=by
 cases r with
 |ok a=>exact i a h
 |exc c=>exact h
 |bad=>exact h
theorem Out.bind{r:Res α}{f:α→Res β}{k:β→Prop}(h:Out X W (r.bind f) σ G H k):Out X W r σ G H fun a=>Out X W (f a) σ G H k:=by
 cases r with
 |ok a=>exact h
 |exc c=>exact h
 |bad=>exact h
theorem Out.val{r:Res α}{k:α→Prop}(h:Out X W r σ G H k)(n:∀c,r≠.exc c):∃a,r=.ok a∧k a:=by
 cases r with
 |ok a=>exact⟨a,rfl,h⟩
 |exc c=>exact absurd rfl (n c)
 |bad=>exact h.elim
structure Got(W:Wd)(H0 G H:Hp)(e:E)(p:PV)(v:V):Prop where
 top:Top W H0 G H p v
 rep:ff e=true→Rep W G p v
theorem Got.of{H0:Hp}{e:E}{p:PV}{v:V}(h:Rep W G p v):Got W H0 G H e p v:=⟨.inl h,fun _=>h⟩
noncomputable def tE(X:Cx)(W:Wd)(F:aV)(e:E):TE:=fun σ H Q=>∃H0 G env,SR W H0 env σ G H∧Out X W (az F e env) σ G H fun p=>∀v G' H',aJ W G H G' H'→Got W H0 G' H' e p v→Q v H'
noncomputable def tT(X:Cx)(W:Wd)(F:aV)(e:E):TT:=fun σ H Q=>∃H0 G env,SR W H0 env σ G H∧Out X W (az F e env) σ G H fun p=>∃b,p=.bl b∧∀G' H',aJ W G H G' H'→Q b H'
structure Hv(W:Wd)(H0 G H:Hp)(es:Es)(ps:List PV)(vs:List V):Prop where
 top:Paired (fun v p=>Top W H0 G H p v) vs ps
 rep:gb es=true→ak W G ps vs
noncomputable def tA(X:Cx)(W:Wd)(F:aV)(es:Es):TA:=fun σ H Q=>∃H0 G env,SR W H0 env σ G H∧Out X W (au F es env) σ G H fun ps=>∀vs G' H',aJ W G H G' H'→Hv W H0 G' H' es ps vs→Q vs H'
noncomputable def zD(X:Cx)(W:Wd)(F:aV)(o:Oe):TO:=fun σ H Q=>∃H0 G env,SR W H0 env σ G H∧Out X W (aS F o env) σ G H fun i=>∀G' H',aJ W G H G' H'→Q i H'
theorem one{H0:Hp}{env:Sl}{e:E}{f:PV→Res β}{k:β→Prop}{Q:VK}(sr:SR W H0 env σ G H)(o:Out X W ((az F e env).bind f) σ G H k)
 (h:∀p v G1 H1,aJ W G H G1 H1→Got W H0 G1 H1 e p v→SR W H0 env σ G1 H1→Out X W (f p) σ G1 H1 k→Q v H1):tE X W F e σ H Q:=
 ⟨H0,G,env,sr,o.bind.imp fun p hp v G1 H1 g t=>h p v G1 H1 g t (sr.grow g) (hp.grow g)⟩
theorem As{H0:Hp}{env:Sl}{e:E}{f:Bool→Res β}{k:β→Prop}{Q:Bool→Hp→Prop}(sr:SR W H0 env σ G H)(o:Out X W ((az F e env).bind fun p=>qA p f) σ G H k)
 (h:∀b G1 H1,aJ W G H G1 H1→SR W H0 env σ G1 H1→Out X W (f b) σ G1 H1 k→Q b H1):tT X W F e σ H Q:=by
 refine⟨H0,G,env,sr,o.bind.imp fun p hp=>?_⟩
 cases p with
 |bl b=>exact⟨b,rfl,fun G1 H1 g=>h b G1 H1 g (sr.grow g) (Out.grow hp g)⟩
 |non=>exact False.elim hp
 |int _=>exact False.elim hp
 |str _=>exact False.elim hp
 |tup _=>exact False.elim hp
 |lst _=>exact False.elim hp
 |exc _=>exact False.elim hp
 |dct _ _=>exact False.elim hp
theorem args{H0:Hp}{env:Sl}{es:Es}{f:List PV→Res β}{k:β→Prop}{Q:List V→Hp→Prop}(sr:SR W H0 env σ G H)(o:Out X W ((au F es env).bind f) σ G H k)
 (h:∀ps vs G1 H1,aJ W G H G1 H1→Hv W H0 G1 H1 es ps vs→SR W H0 env σ G1 H1→Out X W (f ps) σ G1 H1 k→Q vs H1):tA X W F es σ H Q:=
 ⟨H0,G,env,sr,o.bind.imp fun p hp v G1 H1 g t=>h p v G1 H1 g t (sr.grow g) (hp.grow g)⟩
theorem Got.grow{H0 G2 H2:Hp}{e:E}{p:PV}{v:V}(h:Got W H0 G H e p v)(g:aJ W G H G2 H2):Got W H0 G2 H2 e p v:=⟨h.top.grow g,fun z=>Rep.same g.g p (h.rep z)⟩
def wX(W:Wd)(G:Hp):Option (Str×List Nat)→List PV→List V→Prop
 |none,as,vs=>ak W G as vs
 |some q,as,vs=>∃uJ cL sN v,as=uJ++cL∧vs=sN++[v]∧ak W G uJ sN∧nJ W G q.1 q.2 cL v
noncomputable def wu(W:Wd)(F:aV)(f:Str)(n:Nat)(q:Option (Str×List Nat)):Sp:=fun vs H Q E=>vs.length=n∧∃G as,aF G H∧cD W G H∧wX W G q as vs∧(match F f as with
 |.ok p=>∀v G' H',aJ W G H G' H'→Rep W G' p v→Q v H'
 |.exc c=>∀Cv ao H',XE W c G H Cv ao H'→E Cv ao H'
 |.bad=>False)
structure FL(X:Cx)(W:Wd)(F:aV)(k:Nat)(f:Str):Prop where
 ex:∃fa fd ps,fD X.prog X.w X.K X.mg X.base (dy X.prog X.w) k fa fd ps (wu W F f ps.length none)∧X.mg f=some (.ref fa)∧PySem.W.keepIn X.K (.ref fa)=true∧Binds X.K fd ps []∧∀as,F f as≠.bad→as.length=ps.length
structure Hn(X:Cx)(W:Wd)(F:aV)(k:Nat)(q:Hs):Prop where
 ex:∃fa fd ps,fD X.prog X.w X.K X.mg X.base (dy X.prog X.w) k fa fd ps (wu W F q.f ps.length (some (q.g,q.idx)))∧X.mg q.h=some (.ref fa)∧PySem.W.keepIn X.K (.ref fa)=true∧Binds X.K fd ps []∧ps.length=q.np
structure du(Γ:Pg)(F:aV)(W:Wd)(N:List Str)(sc:Scope)(k:Nat)(X:Cx):Prop where
 hN:X.N=N
 hsc:X.env.scope=sc
 calm:X.calm=true
 nd:N.Nodup
 K:W.K=X.K
 mg:W.mg=X.mg
 gs:∀q∈Γ.gs,∃u v,X.mg q.1=some u∧RelV v u∧∀G,Rep W G q.2 v
 bs:∀g∈Γ.bs,X.mg g=none
 room:di (k+1) X.A
 fns:∀f,Γ.fs.contains f=true→FL X W F k f
 nov:Γ.cs.contains "ValueError"=false
 cls:∀c∈Γ.cs,∃C,X.mg c=some (.ref C)
 xc:∀d∈W.xs,∀D,X.mg d=some (.ref D)→DX X.K D∧(∀c∈Γ.cs,∀C,X.mg c=some (.ref C)→PySem.W.kitOne X.K (.ref D) (.ref C)=some (c==d||c=="FloorError"))∧PySem.W.kitOne X.K (.ref D) (.type "ValueError")=some true
 hfs:∀q∈Γ.hs,Hn X W F k q
 any:∀g as,F g as≠.bad→Γ.fs.contains g=true∨gC g=true
 tb:Γ.hl=true→∃c P,X.env.code=.ref c∧PySem.W.CodeHd X.base c P∧(P,X.env.qual++"<lambda>")∈W.ts∧∀q',(P,q')∈W.ts→q'=X.env.qual++"<lambda>"
 bm:Γ.hl=true→zx X.mg X.base
 fl:Γ.hl=true→∀x,X.fn x=true
end
end Ci
namespace Ci
open PySem L2
section
variable{Γ:Pg}{X:Cx}{W:Wd}{F:aV}{N:List Str}{sc:Scope}{k:Nat}
theorem mU(C:du Γ F W N sc k X){x:Str}(h:dR sc x=true):Jd X.env.scope x:=by
 rw [C.hsc];unfold dR dH at h;simp only [Bool.or_eq_true,beq_iff_eq] at h;rcases h with(h|h)|h
 ·exact .inl h
 ·exact .inr (.inl h)
 ·exact .inr (.inr h)
theorem fy(C:du Γ F W N sc k X){x:Str}(h:iM sc x=true):Gl X x:=by
 show X.env.scope.names.lookup x=_
 rw [C.hsc];exact beq_iff_eq.mp h
theorem dj{x:Str}(h:okN x=true):(x==("__debug__":Str))=false∧(x==("__classdict__":Str))=false∧x≠"__name__":=by
 unfold okN at h;simp only [zza,Bool.not_eq_true',beq_eq_false_iff_ne] at h;exact⟨beq_eq_false_iff_ne.mpr h.1.1,beq_eq_false_iff_ne.mpr h.1.2,h.2⟩
abbrev GE(X:Cx)(W:Wd)(F:aV)(e:E)(p:Expr):Prop:=PE X p (tE X W F e)
abbrev GT(X:Cx)(W:Wd)(F:aV)(e:E)(p:Expr):Prop:=PT X p (tT X W F e)
abbrev GW(X:Cx)(W:Wd)(F:aV)(e:E)(p:Expr):Prop:=PW X p (tT X W F e)
theorem _root_.L2.PE.imp{p:Expr}{t t':TE}(h:PE X p t)(i:∀σ H Q,t' σ H Q→t σ H Q):PE X p t':=fun pins s σ H Q I hw=>h pins s σ H Q I (i σ H Q hw)
theorem _root_.L2.PT.imp{p:Expr}{t t':TT}(h:PT X p t)(i:∀σ H Q,t' σ H Q→t σ H Q):PT X p t':=fun pins s σ H Q I hw=>h pins s σ H Q I (i σ H Q hw)
theorem _root_.L2.PW.imp{p:Expr}{t t':TT}(h:PW X p t)(i:∀σ H Q,t' σ H Q→t σ H Q):PW X p t':=fun w pins s σ H Q I hw=>h w pins s σ H Q I (i σ H Q hw)
theorem _root_.L2.PA.imp{p:List Expr}{t t':TA}(h:PA X p t)(i:∀σ H Q,t' σ H Q→t σ H Q):PA X p t':=fun pos pins s σ H Q I hw=>h pos pins s σ H Q I (i σ H Q hw)
theorem Cz{e:E}(σ:St)(H:Hp)(Q:Bool→Hp→Prop)(h:tT X W F e σ H Q):tB (tE X W F e) σ H Q:=by
 obtain⟨H0,G,env,sr,o⟩:=h
 refine⟨H0,G,env,sr,o.imp fun p hp v G' H' g t=>?_⟩
 obtain⟨b,rfl,q⟩:=hp
 exact⟨b,t.top.bl,q G' H' g⟩
theorem oR{e:E}(σ:St)(H:Hp)(Q:Bool→Hp→Prop)(h:tT X W F e σ H Q):xg (tE X W F e) σ H Q:=Cz σ H Q h
theorem DD(C:du Γ F W N sc k X){i:Nat}{x:Str}{pos:Pos}(h:(N[i]?==some x&&dR sc x&&okN x)=true):GE X W F (.var i) (.Name x pos):=by
 simp only [zza,beq_iff_eq] at h;obtain⟨h1,h2,h3⟩:=dj h.2
 refine(eQ (i:=i) (by rw [C.hN];exact h.1.1) (mU C h.1.2) h1 h2).imp fun σ H Q hq=>?_
 obtain⟨H0,G,env,sr,o⟩:=hq
 cases e:env[i]? with
 |none=>unfold az at o;rw [e] at o;exact o.elim
 |some sl=>
  cases sl with
  |no=>unfold az at o;rw [e] at o;exact o.elim
  |fn _ _ _=>unfold az at o;rw [e] at o;exact o.elim
  |own p=>unfold az at o;rw [e] at o;exact o.elim
  |val p=>
   unfold az at o;rw [e] at o;obtain⟨o2,hs,v,rfl,r⟩:=sr.slot i _ e
   exact⟨v,hs,o v G H (.refl sr.sub) (.of r)⟩
theorem DK(C:du Γ F W N sc k X){i:Nat}{x:Str}{pos:Pos}(h:(N[i]?==some x&&dR sc x&&okN x)=true):GE X W F (.tmp i) (.Name x pos):=by
 simp only [zza,beq_iff_eq] at h;obtain⟨h1,h2,h3⟩:=dj h.2
 refine(eQ (i:=i) (by rw [C.hN];exact h.1.1) (mU C h.1.2) h1 h2).imp fun σ H Q hq=>?_
 obtain⟨H0,G,env,sr,o⟩:=hq
 cases e:env[i]? with
 |none=>unfold az at o;rw [e] at o;exact o.elim
 |some sl=>
  cases sl with
  |no=>unfold az at o;rw [e] at o;exact o.elim
  |fn _ _ _=>unfold az at o;rw [e] at o;exact o.elim
  |own p=>
   unfold az at o;rw [e] at o;obtain⟨o2,hs,v,rfl,r⟩:=sr.slot i _ e
   exact⟨v,hs,o v G H (.refl sr.sub) ⟨.inr r,fun z=>nomatch z⟩⟩
  |val p=>
   unfold az at o;rw [e] at o;obtain⟨o2,hs,v,rfl,r⟩:=sr.slot i _ e
   exact⟨v,hs,o v G H (.refl sr.sub) (.of r)⟩
theorem fQ{p:PV}{v:V}{e:Expr}(h:PE X e (tC v))(r:∀G,Rep W G p v):GE X W F (.cst p) e:=by
 refine L2.PE.imp h fun σ H Q hq=>?_
 obtain⟨H0,G,env,sr,o⟩:=hq
 exact o v G H (.refl sr.sub) (.of (r G))
theorem AQ(C:du Γ F W N sc k X){g x:Str}{p:PV}{pos:Pos}(h:(g==x&&iM sc x&&okN x&&Γ.gs.any fun q=>q.1==g&&su q.2 p)=true):GE X W F (.glob g p) (.Name x pos):=by
 simp only [zza,beq_iff_eq,List.any_eq_true] at h;obtain⟨⟨⟨rfl,h2⟩,h3⟩,q,hq,e1,e2⟩:=h
 obtain⟨u,v,hm,rv,hr⟩:=C.gs q hq
 rw [e1] at hm;cases yS e2;refine(AM (fy C h2) hm rv (dj h3).1).imp fun σ H Q hq=>?_
 obtain⟨H0,G,env,sr,o⟩:=hq
 exact o v G H (.refl sr.sub) (.of (hr G))
theorem lG{o:Gj}{p q:PV}(c:Str):binOp o p q≠.exc c:=by
 unfold binOp
 repeat' split
 all_goals exact fun z=>nomatch z
theorem Res.of_noexc{α:Type}{o:Option α}(c:Str):Res.of o≠.exc c:=by cases o<;>exact fun z=>nomatch z
theorem dh{o:wH}{p q:PV}(c:Str):c7 o p q≠.exc c:=by
 cases o
 case eq=>show fG p q≠_;unfold fG;split<;>exact fun z=>nomatch z
 case ne=>show iX p q≠_;unfold iX;split<;>exact fun z=>nomatch z
 case lt=>show oN p q≠_;unfold oN;split<;>exact fun z=>nomatch z
 case le=>show pZ p q≠_;unfold pZ;split<;>exact fun z=>nomatch z
 case gt=>show qV p q≠_;unfold qV;split<;>exact fun z=>nomatch z
 case is=>show rO p q≠_;unfold rO;split<;>exact fun z=>nomatch z
 case isn=>show e8 p q≠_;unfold e8;split<;>exact fun z=>nomatch z
 case neD=>
  show iS p q≠_
  unfold iS;split
  ·intro z;rcases Res.bind_exc z with z|⟨a,_,z⟩
   ·exact Res.of_noexc c z
   ·rcases Res.bind_exc z with z|⟨a,_,z⟩
    ·exact Res.of_noexc c z
    ·cases z
  ·exact fun z=>nomatch z
 case in_=>
  show rn p q≠_
  unfold rn;split
  ·intro z;rcases Res.bind_exc z with z|⟨a,_,z⟩
   ·exact Res.of_noexc c z
   ·cases z
  ·exact fun z=>nomatch z
 case nin=>
  show fb p q≠_
  unfold fb;split
  ·split<;>exact fun z=>nomatch z
  ·intro z;rcases Res.bind_exc z with z|⟨a,_,z⟩
   ·exact Res.of_noexc c z
   ·cases z
  ·exact fun z=>nomatch z
theorem two{op:PV→PV→Res PV}{ea eb:E}{e:E}{σ:St}{H:Hp}{Q:VK}(hn:∀p q c,op p q≠.exc c)(he:∀env,az F e env=(az F ea env).bind fun x=>(az F eb env).bind fun y=>op x y)
 (h:tE X W F e σ H Q):Gz (qC W op) (tE X W F ea) (tE X W F eb) σ H Q:=by
 obtain⟨H0,G,env,sr,o⟩:=h
 rw [he] at o;refine one sr o fun p v G1 H1 g1 t1 bL o1=>one bL o1 fun q u G2 H2 g2 t2 eO o2=>?_
 obtain⟨r,hr,kr⟩:=o2.val (hn p q)
 exact⟨H0,G2,p,q,r,eO.sub,t1.top.grow g2,t2.top,hr,fun w G' H' g' gu=>kr w G' H' ((g1.trans g2).trans g') (.of gu)⟩
theorem Ds(C:du Γ F W N sc k X){o:Gj}{a b:E}{pa pb:Expr}{pos:Pos}(ha:GE X W F a pa)(hb:GE X W F b pb):GE X W F (.bin o a b) (.BinOp pa (LI o) pb pos):=
 (Ip (DL C.K o) ha hb).imp fun σ H Q h=>two (fun p q c=>lG c) (fun env=>by rw [az]) h
theorem F6(C:du Γ F W N sc k X){o:wH}{a b:E}{pa pb:Expr}{pos:Pos}(ha:GE X W F a pa)(hb:GE X W F b pb)(hm:behindInMarks (oH o) pb=false):GE X W F (.cmp o a b) (.Compare pa [oH o] [pb] pos):=
 (By (fY C.K C.room.units o) ha hb hm).imp fun σ H Q h=>two (fun p q c=>dh c) (fun env=>by rw [az]) h
theorem E7(C:du Γ F W N sc k X){o:wH}{a b:E}{pa pb:Expr}{pos:Pos}(ha:GE X W F a pa)(hb:GE X W F b pb)(hm:behindInMarks (oH o) pb=false):GT X W F (.cmp o a b) (.Compare pa [oH o] [pb] pos):=
 (B6 (fY C.K C.room.units o) ha hb hm).imp fun σ H Q h=>by
  have h2:=oR σ H Q h
  exact two (fun p q c=>dh c) (fun env=>by rw [az]) h2
theorem Di{c1 c2:wH}{a b c:E}(σ:St)(H:Hp)(Q:VK)(h:tE X W F (.ch c1 c2 a b c) σ H Q):qN (qC W (c7 c1)) (qC W (c7 c2)) (tE X W F a) (tE X W F b) (tE X W F c) σ H Q:=by
 obtain⟨H0,G,env,sr,o⟩:=h
 rw [az] at o;refine one sr o fun p v G1 H1 g1 t1 bL o1=>one bL o1 fun q u G2 H2 g2 t2 eO o2=>?_
 obtain⟨r,hr,kr⟩:=o2.bind.val (dh)
 refine⟨H0,G2,p,q,r,eO.sub,t1.top.grow g2,t2.top,hr,fun w G3 H3 g3 gu=>?_⟩
 cases r with
 |bl t=>
  simp only [Rep] at gu;subst gu;refine⟨t,rfl,?_⟩;cases t with
  |false=>
   rw [if_neg zzf];have rW:Out X W (Res.ok (PV.bl false)) σ G2 H2 _:=kr
   exact rW _ G3 H3 ((g1.trans g2).trans g3) (.of .b)
  |true=>
   rw [if_pos rfl];have rW:Out X W ((az F c env).bind fun z=>c7 c2 q z) σ G2 H2 _:=kr
   refine one (eO.grow g3) (rW.grow g3) fun z y G4 H4 g4 t4 F9 o4=>?_
   obtain⟨r4,hr4,kr4⟩:=o4.val (dh)
   exact⟨H0,G4,q,z,r4,F9.sub,t2.top.grow (g3.trans g4),t4.top,hr4,fun w G5 H5 g5 NI=>kr4 w G5 H5 ((((g1.trans g2).trans g3).trans g4).trans g5) (.of NI)⟩
 |non=>exact False.elim kr
 |int _=>exact False.elim kr
 |str _=>exact False.elim kr
 |tup _=>exact False.elim kr
 |lst _=>exact False.elim kr
 |exc _=>exact False.elim kr
 |dct _ _=>exact False.elim kr
theorem IP(C:du Γ F W N sc k X){o1 o2:wH}{a b c:E}{pa pb pc:Expr}{pos:Pos}(ha:GE X W F a pa)(hb:GE X W F b pb)(hc:GE X W F c pc)(hm:lastMarks [oH o1,oH o2] [pb,pc]=false):GE X W F (.ch o1 o2 a b c) (.Compare pa [oH o1,oH o2] [pb,pc] pos):=
 (wL (fY C.K C.room.units o1) (fY C.K C.room.units o2) ha hb hc hm).imp Di
theorem Hh(C:du Γ F W N sc k X){o1 o2:wH}{a b c:E}{pa pb pc:Expr}{pos:Pos}(ha:GE X W F a pa)(hb:GE X W F b pb)(hc:GE X W F c pc)(hm:lastMarks [oH o1,oH o2] [pb,pc]=false):GT X W F (.ch o1 o2 a b c) (.Compare pa [oH o1,oH o2] [pb,pc] pos):=
 (zm (fY C.K C.room.units o1) (fY C.K C.room.units o2) ha hb hc hm).imp fun σ H Q h=>Di σ H _ (oR σ H Q h)
theorem yu{a:E}{pa:Expr}{pos:Pos}(ha:GE X W F a pa):GE X W F (.neg a) (.UnaryOp .USub pa pos):=
 (IC (AJ (W:=W)) ha).imp fun σ H Q h=>by
  obtain⟨H0,G,env,sr,o⟩:=h
  rw [az] at o;refine one sr o fun p v G1 H1 g1 t1 bL o1=>?_
  cases p with
  |int i=>exact⟨H0,G1,i,bL.sub,t1.top,fun w G' H' g' gu=>o1 w G' H' (g1.trans g') (.of gu)⟩
  |bl _=>exact False.elim o1
  |non=>exact False.elim o1
  |str _=>exact False.elim o1
  |tup _=>exact False.elim o1
  |lst _=>exact False.elim o1
  |exc _=>exact False.elim o1
  |dct _ _=>exact False.elim o1
theorem DM{a:E}{pa:Expr}{pos:Pos}(ha:GE X W F a pa):GE X W F (.not a) (.UnaryOp .Not pa pos):=
 (E3 ha).imp fun σ H Q h=>by
  obtain⟨H0,G,env,sr,o⟩:=h
  rw [az] at o;refine one sr o fun p v G1 H1 g1 t1 bL o1=>?_
  cases p with
  |bl b=>exact⟨b,t1.top.bl,o1 _ G1 H1 g1 (.of .b)⟩
  |int _=>exact False.elim o1
  |non=>exact False.elim o1
  |str _=>exact False.elim o1
  |tup _=>exact False.elim o1
  |lst _=>exact False.elim o1
  |exc _=>exact False.elim o1
  |dct _ _=>exact False.elim o1
theorem Fm{a:E}{pa:Expr}{pos:Pos}(ha:GT X W F a pa):GT X W F (.not a) (.UnaryOp .Not pa pos):=
 (Dv ha).imp fun σ H Q h=>by
  obtain⟨H0,G,env,sr,o⟩:=h
  rw [az] at o;refine As sr o fun b G1 H1 g1 bL o1=>?_
  obtain⟨b',e,q⟩:=o1
  cases e;exact q G1 H1 g1
theorem yV{a b:E}{pa pb:Expr}{r:List Expr}{pos:Pos}(he:ff b=true)(ha:GE X W F a pa)(hb:GE X W F b (.BoolOp .And (pb::r) pos)):GE X W F (.and a b) (.BoolOp .And (pa::pb::r) pos):=
 (Fc ha hb).imp fun σ H Q h=>by
  obtain⟨H0,G,env,sr,o⟩:=h
  rw [az] at o;refine one sr o fun p v G1 H1 g1 t1 bL o1=>?_
  cases p with
  |bl t=>
   refine⟨t,t1.top.bl,?_⟩;cases t with
   |true=>
    rw [if_pos rfl];have pM:Out X W (az F b env) σ G1 H1 _:=o1
    exact⟨H0,G1,env,bL,pM.imp fun p hp v G' H' g' t'=>hp v G' H' (g1.trans g') (.of (t'.rep he))⟩
   |false=>
    rw [if_neg zzf];have pM:Out X W (Res.ok (PV.bl false)) σ G1 H1 _:=o1
    exact pM _ G1 H1 g1 (.of .b)
  |int _=>exact False.elim o1
  |non=>exact False.elim o1
  |str _=>exact False.elim o1
  |tup _=>exact False.elim o1
  |lst _=>exact False.elim o1
  |exc _=>exact False.elim o1
  |dct _ _=>exact False.elim o1
theorem Dd{a b:E}{pa pb:Expr}{r:List Expr}{pos:Pos}(he:ff b=true)(ha:GE X W F a pa)(hb:GE X W F b (.BoolOp .Or (pb::r) pos)):GE X W F (.or a b) (.BoolOp .Or (pa::pb::r) pos):=
 (IV ha hb).imp fun σ H Q h=>by
  obtain⟨H0,G,env,sr,o⟩:=h
  rw [az] at o;refine one sr o fun p v G1 H1 g1 t1 bL o1=>?_
  cases p with
  |bl t=>
   refine⟨t,t1.top.bl,?_⟩;cases t with
   |false=>
    rw [if_neg zzf];have pM:Out X W (az F b env) σ G1 H1 _:=o1
    exact⟨H0,G1,env,bL,pM.imp fun p hp v G' H' g' t'=>hp v G' H' (g1.trans g') (.of (t'.rep he))⟩
   |true=>
    rw [if_pos rfl];have pM:Out X W (Res.ok (PV.bl true)) σ G1 H1 _:=o1
    exact pM _ G1 H1 g1 (.of .b)
  |int _=>exact False.elim o1
  |non=>exact False.elim o1
  |str _=>exact False.elim o1
  |tup _=>exact False.elim o1
  |lst _=>exact False.elim o1
  |exc _=>exact False.elim o1
  |dct _ _=>exact False.elim o1
theorem xG{a b:E}{pa pb:Expr}{r:List Expr}{pos:Pos}(ha:GT X W F a pa)(hb:GW X W F b (.BoolOp .And (pb::r) pos)):GW X W F (.and a b) (.BoolOp .And (pa::pb::r) pos):=
 (pw_and ha hb).imp fun σ H Q h=>by
  obtain⟨H0,G,env,sr,o⟩:=h
  rw [az] at o;refine As sr o fun t G1 H1 g1 bL o1=>?_
  cases t with
  |true=>
   rw [if_pos rfl];have pM:Out X W (az F b env) σ G1 H1 _:=o1
   exact⟨H0,G1,env,bL,pM.imp fun p hp=>by obtain⟨c,rfl,q⟩:=hp;exact⟨c,rfl,fun G' H' g'=>q G' H' (g1.trans g')⟩⟩
  |false=>
   rw [if_neg zzf];obtain⟨c,e,q⟩:=(show Out X W (Res.ok (PV.bl false)) σ G1 H1 _ from o1)
   cases e;exact q G1 H1 g1
theorem CT{a b:E}{pa pb:Expr}{r:List Expr}{pos:Pos}(ha:GT X W F a pa)(hb:GW X W F b (.BoolOp .Or (pb::r) pos)):GW X W F (.or a b) (.BoolOp .Or (pa::pb::r) pos):=
 (pw_or ha hb).imp fun σ H Q h=>by
  obtain⟨H0,G,env,sr,o⟩:=h
  rw [az] at o;refine As sr o fun t G1 H1 g1 bL o1=>?_
  cases t with
  |false=>
   rw [if_neg zzf];have pM:Out X W (az F b env) σ G1 H1 _:=o1
   exact⟨H0,G1,env,bL,pM.imp fun p hp=>by obtain⟨c,rfl,q⟩:=hp;exact⟨c,rfl,fun G' H' g'=>q G' H' (g1.trans g')⟩⟩
  |true=>
   rw [if_pos rfl];obtain⟨c,e,q⟩:=(show Out X W (Res.ok (PV.bl true)) σ G1 H1 _ from o1)
   cases e;exact q G1 H1 g1
theorem ER{c a b:E}{pc pa pb:Expr}{pos:Pos}(Jh:ff a=true)(Ij:ff b=true)(hc:GT X W F c pc)(ha:GE X W F a pa)(hb:GE X W F b pb):GE X W F (.ite c a b) (.IfExp pc pa pb pos):=
 (zl hc ha hb).imp fun σ H Q h=>by
  obtain⟨H0,G,env,sr,o⟩:=h
  rw [az] at o;refine As sr o fun t G1 H1 g1 bL o1=>?_
  cases t with
  |true=>
   rw [if_pos rfl];have pM:Out X W (az F a env) σ G1 H1 _:=o1
   exact⟨H0,G1,env,bL,pM.imp fun p hp v G' H' g' t'=>hp v G' H' (g1.trans g') (.of (t'.rep Jh))⟩
  |false=>
   rw [if_neg zzf];have pM:Out X W (az F b env) σ G1 H1 _:=o1
   exact⟨H0,G1,env,bL,pM.imp fun p hp v G' H' g' t'=>hp v G' H' (g1.trans g') (.of (t'.rep Ij))⟩
end
end Ci
namespace Ci
open PySem L2
section
variable{Γ:Pg}{X:Cx}{W:Wd}{F:aV}{N:List Str}{sc:Scope}{k:Nat}
noncomputable def tF(X:Cx)(W:Wd)(F:aV)(e:E):TE:=fun σ H Q=>∃H0 G env,SR W H0 env σ G H∧Out X W (az F e env) σ G H fun p=>∃xs,p=.lst xs∧∀a vs G' H',aJ W G H G' H'→H' a=none→ak W G' xs vs→Q (.ref a) (upd H' a (.lst vs))
abbrev GF(X:Cx)(W:Wd)(F:aV)(e:E)(p:Expr):Prop:=PE X p (tF X W F e)
theorem GF.ge{e:E}{p:Expr}(h:GF X W F e p)(hl:∀env q,az F e env=.ok q→∃xs,q=.lst xs):GE X W F e p:=
 L2.PE.imp h fun σ H Q hq=>by
  obtain⟨H0,G,env,sr,o⟩:=hq
  refine⟨H0,G,env,sr,?_⟩;cases r:az F e env with
  |bad=>rw [r] at o;exact o
  |exc c=>rw [r] at o;exact o
  |ok q=>
   rw [r] at o;obtain⟨xs,rfl⟩:=hl env q r
   exact⟨xs,rfl,fun a vs G' H' g ha l=>o _ _ _ (g.trans (.new g.sub ha)) (.of (.l (.inl (.inl av)) (ak.same (bD (g.sub.free ha)) xs l)))⟩
theorem notStar{e:E}{p:Expr}(h:aZ Γ N sc e p=true):∀env ps,starEach (p::ps) env=(false,eval p env)::starEach ps env:=by
 intro env ps;cases p<;>first|rfl|(cases e<;>first|(exact absurd h zzf)|(rename_i q;cases q<;>exact absurd h zzf))
theorem dB:∀{es:Es} {ps:List Expr},fA Γ N sc es ps=true→∀env pos,(backTo pos (starEach ps env)).any (·.1)=false
 |.nil,[],_,_,_=>rfl
 |.cons e es,p::ps,h,env,pos=>by
  replace h:=aG h
  rw [notStar h.1];show(false||(backTo pos (starEach ps env)).any (·.1))=false
  rw [dB h.2]
  rfl
 |.nil,_::_,h,_,_=>absurd h zzf
 |.cons _ _,[],h,_,_=>absurd h zzf
abbrev GA(X:Cx)(W:Wd)(F:aV)(es:Es)(ps:List Expr):Prop:=PA X ps (tA X W F es)
theorem ED:GA X W F .nil []:=L2.PA.imp d7 fun σ H Q h=>by
 obtain⟨H0,G,env,sr,o⟩:=h
 rw [au] at o;exact o [] G H (.refl sr.sub) ⟨.nil,fun _=>.nil⟩
theorem Bj{e:E}{es:Es}{p:Expr}{ps:List Expr}(he:GE X W F e p)(hs:GA X W F es ps)(dm:starEach (p::ps) X.env=(false,eval p X.env)::starEach ps X.env):GA X W F (.cons e es) (p::ps):=
 L2.PA.imp (cI he hs dm) fun σ H Q h=>by
  obtain⟨H0,G,env,sr,o⟩:=h
  rw [au] at o;refine one sr o fun q v G1 H1 g1 t1 bL o1=>args bL o1 fun qs vs G2 H2 g2 t2 eO o2=>?_
  refine o2 (v::vs) G2 H2 (g1.trans g2) ⟨.cons (t1.top.grow g2) t2.top,fun z=>?_⟩
  unfold gb at z;rw [zza] at z;exact .cons (Rep.same g2.g q (t1.rep z.1)) (t2.rep z.2)
theorem hJ:∀{es:Es} {env:Sl} {ps:List PV},au F es env=.ok ps→ps.length=fR es
 |.nil,env,ps,h=>by rw [au] at h;cases h;rfl
 |.cons e es,env,ps,h=>by
  rw [au] at h;obtain⟨p,_,h⟩:=Res.bind_ok h
  obtain⟨qs,hq,h⟩:=Res.bind_ok h
  cases h;rw [List.length_cons,hJ hq]
  rfl
theorem Gg{es:Es}{ps:List Expr}{x1:Nat}{pos:Pos}(yG:gb es=true)(hl:fR es<1000)(h:GA X W F es ps):GE X W F (.tup es) (.Tuple ps x1 pos):=
 L2.PE.imp (EZ h) fun σ H Q hq=>by
  obtain⟨H0,G,env,sr,o⟩:=hq
  rw [az] at o;have o':=o
  refine⟨H0,G,env,sr,?_⟩;cases r:au F es env with
  |bad=>rw [r] at o;exact o
  |exc c=>rw [r] at o;exact o
  |ok qs=>
   rw [r] at o;have hlen:=hJ r
   intro vs G1 H1 g1 t;have l:=t.rep yG
   refine⟨by rw [l.length,hlen];exact Nat.le_of_lt (Nat.lt_trans hl (by decide)),fun p hp=>?_⟩
   exact o _ _ _ (g1.trans (.new g1.sub hp)) (.of (.t (.inl av) (ak.same (bD (g1.sub.free hp)) qs l)))
theorem xl{es:Es}{ps:List Expr}{pos:Pos}(yG:gb es=true)(hl:fR es<1000)(h:GA X W F es ps):GF X W F (.lst es) (.List ps pos):=
 L2.PE.imp (ET h) fun σ H Q hq=>by
  obtain⟨H0,G,env,sr,o⟩:=hq
  rw [az] at o;refine⟨H0,G,env,sr,?_⟩;cases r:au F es env with
  |bad=>rw [r] at o;exact o
  |exc c=>rw [r] at o;exact o
  |ok qs=>
   rw [r] at o;have hlen:=hJ r
   obtain⟨xs,e,o⟩:=o
   cases e;intro vs G1 H1 g1 t;have l:=t.rep yG
   exact⟨by rw [l.length,hlen];exact Nat.le_of_lt (Nat.lt_trans hl (by decide)),fun p hp=>o p vs G1 H1 g1 hp l⟩
theorem lst_is{es:Es}:∀env q,az F (.lst es) env=.ok q→∃xs,q=.lst xs:=fun env q h=>by
 rw [az] at h;obtain⟨ps,_,h⟩:=Res.bind_ok h
 cases h;exact⟨_,rfl⟩
theorem vB{p q:PV}(c:Str):aM p q≠.exc c:=by
 unfold aM;split
 ·exact Res.of_noexc c
 ·exact Res.of_noexc c
 ·split
  ·intro z;rcases Res.bind_exc z with z|⟨a,_,z⟩
   ·exact Res.of_noexc c z
   ·cases z
  ·exact fun z=>nomatch z
 ·intro z;rcases Res.bind_exc z with z|⟨a,_,z⟩
  ·exact Res.of_noexc c z
  ·exact Res.of_noexc c z
 ·exact fun z=>nomatch z
theorem Fd(C:du Γ F W N sc k X){a b:E}{pa pb:Expr}{pos:Pos}(ha:GE X W F a pa)(hb:GE X W F b pb)(hs:oD pb):GE X W F (.sub a b) (.Subscript pa pb pos):=
 (CO (JN C.K C.room.units) ha hb hs).imp fun σ H Q h=>two (fun p q c=>vB c) (fun env=>by rw [az]) h
theorem x6{e:E}{p:Expr}(h:aZ Γ N sc e p=true):oD p:=by
 intro o i;cases p<;>first|rfl|(cases e<;>first|(exact absurd h zzf)|(rename_i q;cases q<;>exact absurd h zzf))
theorem n4{e:E}{p:Expr}(h:aZ Γ N sc e p=true)(op:CmpOp):behindInMarks op p=false:=by
 cases p<;>first|rfl|(cases e<;>first|(exact absurd h zzf)|(rename_i q;cases q<;>exact absurd h zzf))
theorem Ac:PO X none (zD X W F .no):=fun pins s σ H Q I h=>AI pins s σ H Q I (by
 obtain⟨H0,G,env,sr,o⟩:=h
 rw [aS] at o;exact o G H (.refl sr.sub))
theorem A4{e:E}{p:Expr}(h:GE X W F e p):PO X (some p) (zD X W F (.some e)):=fun pins s σ H Q I hq=>Au h pins s σ H Q I (by
 obtain⟨H0,G,env,sr,o⟩:=hq
 rw [aS] at o;refine one sr o fun q v G1 H1 g1 t1 bL o1=>?_
 cases q with
 |int i=>exact⟨i,t1.top.int,o1 G1 H1 g1⟩
 |bl _=>exact False.elim o1
 |non=>exact False.elim o1
 |str _=>exact False.elim o1
 |tup _=>exact False.elim o1
 |lst _=>exact False.elim o1
 |exc _=>exact False.elim o1
 |dct _ _=>exact False.elim o1)
theorem oZ{p:PV}{lo hi:Option Int}(c:Str):eV p lo hi≠.exc c:=by
 unfold eV;split
 ·exact fun z=>nomatch z
 ·exact fun z=>nomatch z
theorem xN(C:du Γ F W N sc k X){a:E}{lo hi:Oe}{pa:Expr}{pl ph:Option Expr}{p2 pos:Pos}(ha:GE X W F a pa)(hl:PO X pl (zD X W F lo))(hh:PO X ph (zD X W F hi)):GE X W F (.slice a lo hi) (.Subscript pa (.Slice pl ph none p2) pos):=
 (yn (Kd C.K) ha hl hh).imp fun σ H Q h=>by
  obtain⟨H0,G,env,sr,o⟩:=h
  rw [az] at o;refine one sr o fun p v G1 H1 g1 t1 bL o1=>?_
  refine⟨H0,G1,env,bL,o1.bind.imp fun l vm G2 H2 g2=>?_⟩
  refine⟨H0,G2,env,bL.grow g2,(vm.grow g2).bind.imp fun h' N8 G3 H3 g3=>?_⟩
  obtain⟨r,hr,kr⟩:=(N8.grow g3).val (fun c=>oZ c)
  exact⟨H0,G3,p,r,((bL.grow g2).grow g3).sub,t1.top.grow (g2.trans g3),hr,fun w G' H' g' gu=>kr w G' H' (((g1.trans g2).trans g3).trans g') (.of gu)⟩
theorem BN{CX:qE}{f:Addr}{fd:FuncData}{ps:List Str}{sp:Sp}{E:XK}{pins:List (Addr×Obj)}{σ:St}{H:Hp}{s:Shared}{Q:VK}{us:List Value}{vs:List V}(FO:fD X.prog X.w X.K X.mg X.base CX k f fd ps sp)(hr:di k X.A)(hb:Binds X.K fd ps [])
 (hx:∀e s',CX X.stack H s E e s'→X.xe e s') (I:Inv X pins σ H s) (r:Vals vs us) (h:sp vs H Q E):wpAny (model X.prog X.w) X.A (call (.ref f) us) (EP X pins σ Q) X.xe s:=by
 have hl:us.length=ps.length:=by rw [←r.length];exact FO.len _ _ _ _ h
 have lB:=hb s us I.kIn (by rw [List.append_nil];exact hl)
 rw [List.append_nil] at lB;refine wpAny_call (codeAny_mono (FO.run X.A X.stack s H ⟨us,[]⟩ us vs Q E hr I.env0 lB r h) fun r s' hq=>?_)
 cases r with
 |error e=>exact hx e s' hq
 |ok fl=>
  cases fl with
  |ret u=>exact I.after hq
  |next=>exact False.elim hq
  |brk=>exact False.elim hq
  |cont=>exact False.elim hq
theorem BX.imp{P:Program}{w:World}{outer:List Env}{H:Hp}{s s':Shared}{E E':XK}{e:Value}(h:dy P w outer H s E e s')(i:∀C a H',E C a H'→E' C a H'):dy P w outer H s E' e s':=by
 obtain⟨a,C,t,vs,H',B,rfl,F⟩:=h
 exact⟨a,C,t,vs,H',B,rfl,⟨F.os,F.bare,F.hok,F.fly,F.tn,F.tup,F.keepB,F.thereB,F.un,i _ _ _ F.ends⟩⟩
theorem kE(hr:di k X.A){f:Str}{fa:Addr}{fd:FuncData}{pn:List Str}{q:Option (Str×List Nat)}{pins:List (Addr×Obj)}{σ:St}{G H:Hp}{s:Shared}{Q:VK}{us:List Value}{vs:List V}{as:List PV}
 (FO:fD X.prog X.w X.K X.mg X.base (dy X.prog X.w) k fa fd pn (wu W F f pn.length q)) (hb:Binds X.K fd pn []) (hlen:F f as≠.bad→vs.length=pn.length)
 (I:Inv X pins σ H s) (sg:aF G H) (tb:cD W G H) (l:wX W G q as vs) (r:Vals vs us) (o:Out X W (F f as) σ G H fun p=>cY W G H p Q):wpAny (model X.prog X.w) X.A (call (.ref fa) us) (EP X pins σ Q) X.xe s:=by
 have sD:F f as≠.bad:=fun z=>by rw [z] at o;exact o
 refine BN (E:=fun Cv ao H'=>∃c,F f as=.exc c∧XE W c G H Cv ao H') FO hr hb (fun e s' x=>?_) I r ⟨hlen sD,G,as,sg,tb,l,?_⟩
 ·cases z:F f as with
  |ok q=>
   obtain⟨a,C',t,vs,H',B,rfl,Fl⟩:=x
   obtain⟨c,e1,_⟩:=Fl.ends
   rw [z] at e1;cases e1
  |exc c=>
   rw [z] at o;refine o pins G H s e s' I (.refl sg) (BX.imp x fun C1 a H' y=>?_);obtain⟨c',e1,y⟩:=y
   rw [z] at e1;cases e1;exact y
  |bad=>exact absurd z sD
 ·cases z:F f as with
  |ok q=>
   rw [z] at o;exact fun v G' H' g' rp=>o v G' H' g' rp
  |exc c=>exact fun Cv ao H' x=>⟨c,rfl,x⟩
  |bad=>exact absurd z sD
theorem du.rm(C:du Γ F W N sc k X):di k X.A:=C.room.mono (Nat.le_succ k)
theorem z9(C:du Γ F W N sc k X){f:Str}{e:E}{es:Es}{p:Expr}{ps:List Expr}{np pos:Pos}(hf:Γ.fs.contains f=true)(hg:iM sc f=true)(ho:okN f=true)(yG:gb (.cons e es)=true)(ha:GA X W F (.cons e es) (p::ps))
 (dm:starEach (p::ps) X.env=(false,eval p X.env)::starEach ps X.env) (hpl:(backTo pos (starEach ps X.env)).any (·.1)=false):GE X W F (.call f (.cons e es)) (.Call (.Name f np) (p::ps) [] pos):=by
 intro pins s σ H Q I h;obtain⟨H0,G,env,sr,o⟩:=h
 rw [az] at o;obtain⟨fa,fd,pn,FO,hm,hk,hb,hlen⟩:=(C.fns f hf).ex
 refine wpAny_Call_Name_kw (fZ I (fy C hg) hm ?_ (dj ho).1);refine PySem.W.callWith_K (h₀:=X.base) I.ok.mod.kin hk (bR (ha pos pins s σ H (fun vs H1=>∃G1 as,aF G1 H1∧cD W G1 H1∧ak W G1 as vs∧Out X W (F f as) σ G1 H1 fun p=>cY W G1 H1 p Q) I ?_) fun us s1 ⟨vs,H1,I1,r,q⟩=>⟨I1.kIn,?_⟩) dm hpl
 ·refine args sr o fun as vs G1 H1 g1 t bL o1=>⟨G1,as,bL.sub,bL.tab,t.rep yG,o1.imp fun p hp v G' H' g' rp=>hp v G' H' (g1.trans g') (.of rp)⟩
 ·obtain⟨G1,as,sg,tb,l,o1⟩:=q
  exact kE C.rm FO hb (fun z=>by rw [l.length];exact hlen as z) I1 sg tb l r o1
theorem xP(C:du Γ F W N sc k X){f:Str}{np pos:Pos}(hf:Γ.fs.contains f=true)(hg:iM sc f=true)(ho:okN f=true):GE X W F (.call f .nil) (.Call (.Name f np) [] [] pos):=by
 intro pins s σ H Q I h;obtain⟨H0,G,env,sr,o⟩:=h
 rw [az,au] at o;obtain⟨fa,fd,pn,FO,hm,hk,hb,hlen⟩:=(C.fns f hf).ex
 refine wpAny_Call_Name_kw (fZ I (fy C hg) hm ?_ (dj ho).1);refine PySem.W.callWith_K0 I.kIn hk ?_;have o':Out X W (F f []) σ G H fun p=>∀v G' H',aJ W G H G' H'→Got W H0 G' H' (.call f .nil) p v→Q v H':=o
 exact kE (us:=[]) (vs:=[]) (as:=[]) (q:=none) C.rm FO hb (fun z=>hlen [] z) I sr.sub sr.tab (show ak W G [] [] from .nil) .nil (o'.imp fun p hp v G' H' g' rp=>hp v G' H' g' (.of rp))
theorem vS{b:B}{ps:List PV}(c:Str):cV b ps≠.exc c:=by
 cases b
 case len => show si ps≠_;unfold si;repeat' split
             all_goals exact fun z=>nomatch z
 case abs=>show xt ps≠_;unfold xt;split<;>exact fun z=>nomatch z
 case max2=>show yJ ps≠_;unfold yJ;split<;>exact fun z=>nomatch z
 case int=>
  show xC ps≠_
  unfold xC;split
  ·split
   ·intro z;rcases Res.bind_exc z with z|⟨a,_,z⟩
    ·exact Res.of_noexc c z
    ·cases z
   ·exact fun z=>nomatch z
  ·exact fun z=>nomatch z
 case str => show yf ps≠_;unfold yf;repeat' split
             all_goals exact fun z=>nomatch z
 case tuple=>show j2 ps≠_;unfold j2;split<;>exact fun z=>nomatch z
 case sorted=>
  show ip ps≠_
  unfold ip;split
  ·split<;>exact fun z=>nomatch z
  ·exact fun z=>nomatch z
 case dict=>
  show pR ps≠_
  unfold pR;split
  ·intro z;rcases Res.bind_exc z with z|⟨a,_,z⟩
   ·exact Res.of_noexc c z
   ·cases z
  ·exact fun z=>nomatch z
theorem u4{m:M}{ps:List PV}(c:Str):sF m ps≠.exc c:=by
 cases m
 case join=>
  show pE ps≠_
  unfold pE;split
  ·intro z;rcases Res.bind_exc z with z|⟨a,_,z⟩
   ·exact Res.of_noexc c z
   ·split at z<;>cases z
  ·exact fun z=>nomatch z
theorem Eg(C:du Γ F W N sc k X)(b:B){e:Expr}{es:List Expr}{t:TA}{np pos:Pos}(hg:iM sc (bN b)=true)(hm:Γ.bs.contains (bN b)=true)(ha:PA X (e::es) t)
 (he:starEach (e::es) X.env=(false,eval e X.env)::starEach es X.env) (hpl:(backTo pos (starEach es X.env)).any (·.1)=false):PE X (.Call (.Name (bN b) np) (e::es) [] pos) (Js (yX W (cV b)) t):=by
 have oW:=C.bs _ (List.contains_iff_mem.mp hm)
 have rY:=fy C hg
 cases b
 case len=>exact fO (uR C.K) rY oW PySem.boot_len ha (he:=he) (hpl:=hpl)
 case abs=>exact fO wb rY oW (by decide+kernel) ha (he:=he) (hpl:=hpl)
 case max2=>exact fO (vq C.calm) rY oW (by decide+kernel) ha (he:=he) (hpl:=hpl)
 case int=>exact fV uZ rY oW (by decide+kernel) ha (he:=he) (hpl:=hpl)
 case str=>exact fV vY rY oW (by decide+kernel) ha (he:=he) (hpl:=hpl)
 case tuple=>exact fV (pC C.K) rY oW (by decide+kernel) ha (he:=he) (hpl:=hpl)
 case sorted=>exact fO (om C.K C.calm) rY oW (by decide+kernel) ha (he:=he) (hpl:=hpl)
 case dict=>exact fV (pq C.K C.calm C.room.units) rY oW (by decide+kernel) ha (he:=he) (hpl:=hpl)
theorem EV{op:List PV→Res PV}{es:Es}{e:E}{σ:St}{H:Hp}{Q:VK}(hn:∀ps c,op ps≠.exc c)(he:∀env,az F e env=(au F es env).bind fun ps=>op ps)(h:tE X W F e σ H Q):Js (yX W op) (tA X W F es) σ H Q:=by
 obtain⟨H0,G,env,sr,o⟩:=h
 rw [he] at o;refine args sr o fun ps vs G1 H1 g1 t bL o1=>?_
 obtain⟨r,hr,kr⟩:=o1.val (hn ps)
 exact⟨H0,G1,ps,r,bL.sub,t.top,hr,fun w G' H' g' gu=>kr w G' H' (g1.trans g') (.of gu)⟩
theorem Em(C:du Γ F W N sc k X)(b:B){es:Es}{e:Expr}{ps:List Expr}{np pos:Pos}(hg:iM sc (bN b)=true)(hm:Γ.bs.contains (bN b)=true)(ha:GA X W F es (e::ps))
 (he:starEach (e::ps) X.env=(false,eval e X.env)::starEach ps X.env) (hpl:(backTo pos (starEach ps X.env)).any (·.1)=false):GE X W F (.blt b es) (.Call (.Name (bN b) np) (e::ps) [] pos):=
 (Eg C b hg hm ha he hpl).imp fun σ H Q h=>EV (fun ps c=>vS c) (fun env=>by rw [az]) h
end
end Ci
namespace Ci
open PySem L2
section
variable{Γ:Pg}{X:Cx}{W:Wd}{F:aV}{N:List Str}{sc:Scope}{k:Nat}
theorem xw{t:Ty}{p:PV}(c:Str):ay t p≠.exc c:=by
 cases p<;>exact fun z=>nomatch z
theorem D1(C:du Γ F W N sc k X)(t:Ty){pos:Pos}(hg:iM sc (Str.ofString (sd t))=true)(hm:Γ.bs.contains (Str.ofString (sd t))=true):PE X (.Name (Str.ofString (sd t)) pos) (tC (.ty (sd t))):=by
 have oW:=C.bs _ (List.contains_iff_mem.mp hm)
 have rY:=fy C hg
 cases t
 all_goals exact Bz rY oW (u:=.type _) (by decide+kernel) rfl (by decide+kernel) (by decide+kernel)
theorem Dc(C:du Γ F W N sc k X){t:Ty}{a:E}{pa:Expr}{np tp pos:Pos}(hi:iM sc "isinstance"=true)(hb:Γ.bs.contains "isinstance"=true)(hg:iM sc (Str.ofString (sd t))=true)(hm:Γ.bs.contains (Str.ofString (sd t))=true)(ha:GE X W F a pa)
 (dm:∀env ps,starEach (pa::ps) env=(false,eval pa env)::starEach ps env):GE X W F (.ty t a) (.Call (.Name "isinstance" np) [pa,.Name (Str.ofString (sd t)) tp] [] pos):=by
 refine(fO (zg C.K t) (fy C hi) (C.bs _ (List.contains_iff_mem.mp hb)) (by decide+kernel) (cI ha (cI (D1 C t hg hm) d7) (dm _ _)) (he:=dm _ _)).imp fun σ H Q h=>?_
 obtain⟨H0,G,env,sr,o⟩:=h
 rw [az] at o;refine one sr o fun p v G1 H1 g1 t1 bL o1=>?_
 obtain⟨r,hr,kr⟩:=o1.val (fun c=>xw c)
 exact⟨v,H0,G1,p,r,rfl,bL.sub,t1.top,hr,fun w G' H' g' gu=>kr w G' H' (g1.trans g') (.of gu)⟩
def mT:M→String
 |.join=>"str"
theorem KQ(C:du Γ F W N sc k X){m:M}{p:PV}{v:V}{H0 G H:Hp}(sg:aF G H)(h:tV m p=true)(t:Top W H0 G H p v):KR X.K (mT m) v H:=by
 cases m<;>cases p<;>first|(exact absurd h zzf)|(cases t.str;rfl)|(obtain⟨a,vs,rfl,h1,_⟩:=t.lst sg;exact .inl ⟨rfl,_,dW C.K h1⟩)
theorem FE(C:du Γ F W N sc k X){m:M}{o:E}{es:Es}{po p:Expr}{ps:List Expr}{apos bC:Pos}(ho:GE X W F o po)(ha:GA X W F es (p::ps))(e9:attributeBase po (mN m) X.env (eval po X.env)=eval po X.env)
 (DF:((backTo bC (starEach (p::ps) X.env)).all (fun x=>!x.1)&&(backToKw bC (keywordEach [] X.env)).all (fun x=>x.1.isSome)&&decide ((p::ps).length+([]:List Keyword).length+(if([]:List Keyword).isEmpty then 0 else 1)<30))=true)
 (ik:(apos.endLine==bC.line)=true) (hs:starEach (p::ps) X.env=(false,eval p X.env)::starEach ps X.env) (kl:(backTo bC (starEach ps X.env)).any (·.1)=false):GE X W F (.mth m o es) (.Call (.Attribute po (mN m) apos) (p::ps) [] bC):=by
 have rd:∀σ H Q,tE X W F (.mth m o es) σ H Q→LY X.K (mT m) (Mf W (sF m)) (tE X W F o) (tA X W F es) σ H Q:=fun σ H Q h=>by
  obtain⟨H0,G,env,sr,out⟩:=h
  rw [az] at out;refine one sr out fun p v G1 H1 g1 t1 bL o1=>?_
  by_cases hk:tV m p=true
  ·rw [if_pos hk] at o1;refine⟨KQ C bL.sub hk t1.top,args bL o1 fun ps vs G2 H2 g2 t2 eO o2=>?_⟩
   obtain⟨r,hr,kr⟩:=o2.val (fun c=>u4 c)
   exact⟨H0,G2,p::ps,r,eO.sub,.cons (t1.top.grow g2) t2.top,hr,fun w G' H' g' gu=>kr w G' H' ((g1.trans g2).trans g') (.of gu)⟩
  ·rw [if_neg hk] at o1;exact o1.elim
 cases m
 case join=>exact(xh PySem.F.plainAttrs_str PySem.F.slot_str_join PySem.F.type_str_join (zd C.K) ho ha e9 DF ik hs kl).imp rd
end
end Ci
namespace Ci
open PySem L2
section
variable{Γ:Pg}{X:Cx}{W:Wd}{F:aV}{N:List Str}{sc:Scope}{k:Nat}
theorem SR.set{H0 G H:Hp}{env:Sl}{σ:St}{p:PV}{v:V}(i:Nat)(r:SR W H0 env σ G H)(h:Rep W G p v):SR W H0 (env.set i (.val p)) (σ.set i (some v)) G H where
 len:=by simpa using r.len
 sub:=r.sub
 tab:=r.tab
 tab0:=r.tab0
 base:=r.base
 slot:=fun j s e=>by
  by_cases hj:i=j
  ·subst hj;have cq:i<env.length:=by
    have:=(List.getElem?_eq_some_iff.mp e).1
    simpa using this
   rw [List.getElem?_set_self cq] at e;cases e;exact⟨some v,List.getElem?_set_self (by rw [←r.len];exact cq),v,rfl,h⟩
  ·rw [List.getElem?_set_ne hj] at e;obtain⟨o,h1,h2⟩:=r.slot j s e
   exact⟨o,by rw [List.getElem?_set_ne hj];exact h1,h2⟩
 apart:=fun a b q q' ad e1 e2 e3 e4=>by
  have ne:∀{c:Nat} {q:PV},(env.set i (.val p))[c]?=some (.own q)→i≠c:=fun{c q} e z=>by
   subst z;have cq:i<env.length:=by
    have:=(List.getElem?_eq_some_iff.mp e).1
    simpa using this
   rw [List.getElem?_set_self cq] at e;cases e
  have n1:=ne e1
  have n2:=ne e2
  rw [List.getElem?_set_ne n1] at e1 e3;rw [List.getElem?_set_ne n2] at e2 e4;exact r.apart a b q q' ad e1 e2 e3 e4
noncomputable def gT(K:PySem.W.Frag):Tg→TG
 |.one i=>fM i
 |.two i j=>GZ K 2 (uq (fM i) (uq (fM j) D8))
theorem qR{K:PySem.W.Frag}(hK:W.K=K){tg:Tg}{H0 G H:Hp}{env aE:Sl}{σ:St}{p:PV}{v:V}{Q:St→Hp→Prop}(e:Tg.put tg p env=.ok aE)(r:SR W H0 env σ G H)(h:Rep W G p v)(hq:∀σ',SR W H0 aE σ' G H→Q σ' H):gT K tg v σ H Q:=by
 unfold Tg.put at e;split at e
 ·cases e;exact hq _ (r.set _ h)
 ·cases e;simp only [Rep] at h;obtain⟨a,vs,rfl,sq,l⟩:=h
  obtain⟨v1,r1,rfl,h1,l⟩:=l.uncons
  obtain⟨v2,r2,rfl,h2,l⟩:=l.uncons
  simp only [ak] at l;subst l;rw [hK] at sq;exact⟨a,_,rfl,aF.tup r.sub sq.sq,rfl,_,_,rfl,_,_,rfl,rfl,hq _ ((r.set _ h1).set _ h2)⟩
 ·cases e
theorem qQ{x:Str}(hsc:X.env.scope=sc)(h:dH sc x=true):Loc X.env.scope x:=by
 rw [hsc];unfold dH at h;simp only [Bool.or_eq_true,beq_iff_eq] at h;exact h
theorem y8{fn:Str→Bool}{tg:Tg}{p:Expr}(hN:X.N=N)(nd:N.Nodup)(hsc:X.env.scope=sc)(hc:X.calm=true)(qi:∀x,fn x=true→X.fn x=true)(h:fT N sc fn tg p=true):PG X p (gT X.K tg):=by
 have nm:∀{i:Nat} {x:Str} {pos:Pos},(N[i]?==some x&&dH sc x&&(fn x||sc.names.lookup x==some .local))=true→PG X (.Name x pos) (fM i):=fun{i x pos} h=>by
  simp only [zza,beq_iff_eq,Bool.or_eq_true] at h;refine sU (by rw [hN];exact nd) (by rw [hN];exact h.1.1) (qQ hsc h.1.2) ?_;rcases h.2 with z|z
  ·exact .inl (qi x z)
  ·exact .inr (by rw [hsc];exact z)
 unfold fT at h;split at h
 ·exact nm h
 ·rw [zza] at h;exact FT hc (jk (nm h.1) (jk (nm h.2) sy))
 ·cases h
def nQ(W:Wd)(J:It)(G B:Hp)(ps:List PV):Prop:=∀(i:Nat) (G' H':Hp),aF G G'→gN B H'→aF G' H'→
 (i=ps.length→J.stop i H')∧∀p,ps[i]?=some p→J.go i H'∧∀x k8,J.yld i H' x k8→∃tO,aJ W G' H' tO k8∧Rep W tO p x
structure Ik(W:Wd)(G H:Hp)(it:I)(J:It)(ps:List PV):Prop where
 any:nQ W J G H ps
 frz:B3 it=true→nQ W J G G ps
noncomputable def tI(X:Cx)(W:Wd)(F:aV)(it:I):TI:=fun σ H R=>∃H0 G env,SR W H0 env σ G H∧Out X W (aQ F it env) σ G H fun ps=>∀J G' H',aJ W G H G' H'→Ik W G' H' it J ps→R J H'
abbrev GI(X:Cx)(W:Wd)(F:aV)(tg:Expr)(it:I)(p:Expr):Prop:=PI X tg p (tI X W F it)
theorem tW(hK:W.K=X.K){G B:Hp}{a:Addr}{vs:List V}{ps:List PV}(h:LsR W.K B a vs)(l:ak W G ps vs):nQ W (K5 X.K a) G B ps:=fun i G' H' sG sB sub=>by
 have hq:gk X.K H' a vs:=dW hK (gN.ls sB h)
 refine⟨fun hi=>⟨vs,hq,by rw [l.length];omega⟩,fun p hp=>?_⟩
 obtain⟨v,hv,rv⟩:=l.getP hp
 refine⟨⟨vs,v,hq,hv⟩,fun x k8 hy=>?_⟩
 obtain⟨rfl,hy⟩:=hy
 have:=hy vs hq
 rw [hv] at this;cases this;exact⟨G',.refl sub,Rep.same sG p rv⟩
theorem yY{K:PySem.W.Frag}{G B:Hp}{a:Addr}{vs:List V}{ps:List PV}(h:eJ K B a vs)(l:ak W G ps vs):nQ W (Lk K a) G B ps:=fun i G' H' sG sB sub=>by
 have hq:eJ K H' a vs:=gN.tup sB h
 refine⟨fun hi=>⟨vs,hq,by rw [l.length];omega⟩,fun p hp=>?_⟩
 obtain⟨v,hv,rv⟩:=l.getP hp
 refine⟨⟨vs,v,hq,hv⟩,fun x k8 hy=>?_⟩
 obtain⟨rfl,hy⟩:=hy
 have:=hy vs hq
 rw [hv] at this;cases this;exact⟨G',.refl sub,Rep.same sG p rv⟩
theorem xS{G B:Hp}{a:Addr}{o:Obj}{ks:List (List Int)}{us:List V}(n:ks.length=us.length)(h:B a=some (.frz o (.dT (kz ks us)))):nQ W (LK a o (kz ks us)) G B (ks.map aq):=fun i G' H' sG sB sub=>by
 have hq:H' a=some (.frz o (.dT (kz ks us))):=sB.at h (fun _ z=>nomatch z)
 refine⟨fun hi=>⟨hq,by rw [eK n];rw [zzl] at hi;omega⟩,fun p hp=>?_⟩
 rw [List.getElem?_map] at hp;obtain⟨k,hk,rfl⟩:=Option.map_eq_some_iff.mp hp
 have hi:i<ks.length:=(List.getElem?_eq_some_iff.mp hk).1
 refine⟨⟨hq,by rw [eK n];exact hi⟩,fun x k8 hy=>?_⟩
 obtain⟨rfl,b,k',v,rfl,e2,e3⟩:=hy
 have ek:k'=ki k:=by
  have:=congrArg (fun l=>l[i]?) (nZ (us:=us) n)
  simp only [List.getElem?_map,e2,hk,Option.map_some] at this;exact Option.some.inj this
 rw [ek,nX] at e3;obtain⟨G2,g2,l2⟩:=f9 (W:=W) (vs:=[.ref b]) (nss:=[k]) sub (.cons ⟨b,rfl,e3⟩ .nil)
 obtain⟨w,r,ew,hw,_⟩:=l2.uncons
 cases ew;exact⟨G2,g2,hw⟩
theorem vZ{z:Str}{i:Nat}{p:PV}(h:(chars z)[i]?=some p):∃c,z.cps[i]?=some c∧p=.str ⟨#[c]⟩:=by
 unfold chars at h;rw [List.getElem?_map] at h;obtain⟨c,hc,rfl⟩:=Option.map_eq_some_iff.mp h
 rw [Array.getElem?_toList] at hc;exact⟨c,hc,rfl⟩
theorem uQ(z:Str):(chars z).length=z.cps.size:=by unfold chars;rw [zzl,Array.length_toList]
theorem n0{G B:Hp}(lo:Int)(n:Nat):nQ W (IK lo n) G B (dw lo n):=fun i G' H' sG sB sub=>by
 unfold dw;refine⟨fun hi=>by rw [zzl,List.length_range] at hi;exact Nat.le_of_eq hi.symm,fun p hp=>?_⟩
 rw [List.getElem?_map] at hp;obtain⟨c,hc,rfl⟩:=Option.map_eq_some_iff.mp hp
 obtain⟨h1,h2⟩:=List.getElem?_eq_some_iff.mp hc
 rw [List.length_range] at h1;rw [List.getElem_range] at h2;subst h2;refine⟨h1,fun x k8 hy=>?_⟩
 obtain⟨rfl,rfl⟩:=hy
 exact⟨G',.refl sub,.i⟩
theorem ke{G H:Hp}{p q:PV}{v u:V}{a:Addr}(sub:aF G H)(ha:H a=none)(h1:Rep W G p v)(h2:Rep W G q u):∃tO,aJ W G H tO (upd H a (.tup [v,u]))∧Rep W tO (.tup [p,q]) (.ref a):=
 ⟨_,.new sub ha,.t (.inl av) (ak.same (bD (sub.free ha)) _ (.cons h1 (.cons h2 .nil)))⟩
theorem ic:∀{xs:List PV} {n i:Nat} {p:PV},(cB n xs)[i]?=some p→∃x,xs[i]?=some x∧p=.tup [.int ((n+i:Nat):Int),x]
 |[],_,_,_,h=>by simp [cB] at h
 |x::xs,n,0,p,h=>by simp [cB] at h;exact⟨x,rfl,by rw [←h];simp⟩
 |x::xs,n,i+1,p,h=>by
  simp only [cB,List.getElem?_cons_succ] at h;obtain⟨y,h1,h2⟩:=ic h
  exact⟨y,by simpa using h1,by rw [h2,show n+1+i=n+(i+1) by omega]⟩
theorem cZ:∀(xs:List PV) (n:Nat),(cB n xs).length=xs.length
 |[],_=>rfl
 |_::xs,n=>by simp only [cB,List.length_cons,cZ xs]
theorem pK{K:PySem.W.Frag}{G B:Hp}{a:Addr}{vs:List V}{ps:List PV}(h:eJ K B a vs)(l:ak W G ps vs):nQ W (JR K a vs) G B (cB 0 ps):=fun i G' H' sG sB sub=>by
 have hq:eJ K H' a vs:=gN.tup sB h
 refine⟨fun hi=>⟨hq,by rw [cZ] at hi;rw [l.length];exact hi⟩,fun p hp=>?_⟩
 obtain⟨x,hx,rfl⟩:=ic hp
 obtain⟨v,hv,rv⟩:=l.getP hx
 refine⟨⟨hq,(List.getElem?_eq_some_iff.mp hv).1⟩,fun y k8 hy=>?_⟩
 obtain⟨b,x',rfl,hb,rfl,uX⟩:=hy
 rw [hv] at uX;cases uX;rw [Nat.zero_add];exact ke sub hb .i (Rep.same sG x rv)
theorem kj(hK:W.K=X.K){G B:Hp}{a:Addr}{vs:List V}{ps:List PV}(h:LsR W.K B a vs)(l:ak W G ps vs):nQ W (E6 X.K a vs) G B (cB 0 ps):=fun i G' H' sG sB sub=>by
 have hq:gk X.K H' a vs:=dW hK (gN.ls sB h)
 refine⟨fun hi=>⟨hq,by rw [cZ] at hi;rw [l.length];exact hi⟩,fun p hp=>?_⟩
 obtain⟨x,hx,rfl⟩:=ic hp
 obtain⟨v,hv,rv⟩:=l.getP hx
 refine⟨⟨hq,(List.getElem?_eq_some_iff.mp hv).1⟩,fun y k8 hy=>?_⟩
 obtain⟨b,x',rfl,hb,rfl,uX⟩:=hy
 rw [hv] at uX;cases uX;rw [Nat.zero_add];exact ke sub hb .i (Rep.same sG x rv)
theorem pJ{G B:Hp}(z:Str):nQ W (Jv z) G B (cB 0 (chars z)):=fun i G' H' sG sB sub=>by
 refine⟨fun hi=>by rw [cZ,uQ] at hi;exact hi,fun p hp=>?_⟩
 obtain⟨x,hx,rfl⟩:=ic hp
 obtain⟨c,hc,rfl⟩:=vZ hx
 refine⟨(Array.getElem?_eq_some_iff.mp hc).1,fun y k8 hy=>?_⟩
 obtain⟨b,c',rfl,hb,rfl,gD⟩:=hy
 rw [hc] at gD;cases gD;rw [Nat.zero_add];exact ke sub hb .i .s
theorem eg{e:E}{σ:St}{H0 G H:Hp}{env:Sl}{Q:VK}{p:PV}(sr:SR W H0 env σ G H)(e1:az F e env=.ok p)(h:∀v G1 H1,aJ W G H G1 H1→Got W H0 G1 H1 e p v→Q v H1):tE X W F e σ H Q:=⟨H0,G,env,sr,by rw [e1];exact h⟩
theorem y9{e:E}{σ:St}{H0 G H:Hp}{env:Sl}{Q:VK}{c:Str}(sr:SR W H0 env σ G H)(e1:az F e env=.exc c)(h:rF X W σ c G H):tE X W F e σ H Q:=⟨H0,G,env,sr,by rw [e1];exact h⟩
theorem EE(C:du Γ F W N sc k X){tg p:Expr}{e:E}(he:GE X W F e p):GI X W F tg (.seq e) p:=by
 intro pins s σ H R I h;obtain⟨H0,G,env,sr,o⟩:=h
 rw [aQ] at o;cases r:az F e env with
 |bad=>rw [r] at o;exact o.elim
 |exc c=>rw [r] at o;exact sL he pins s σ H R I (y9 sr r o)
 |ok q=>
  rw [r] at o;cases q with
  |lst xs=>
   refine sL he pins s σ H R I (eg sr r fun v G1 H1 g1 t=>?_);have t':=t
   obtain⟨a,vs,rfl,h1,l1⟩:=t.top.lst g1.sub
   refine⟨a,rfl,⟨vs,dW C.K h1⟩,o _ G1 H1 g1 ⟨tW C.K h1 l1,fun z=>?_⟩⟩
   have rp:=t'.rep z
   simp only [Rep] at rp;obtain⟨a',BO,e1,h2,l2⟩:=rp
   cases e1;exact tW C.K h2 l2
  |tup xs=>
   refine D5 he pins s σ H R I (eg sr r fun v G1 H1 g1 t=>?_);have t':=t
   obtain⟨a,vs,rfl,h1,l1⟩:=t.top.tup g1.sub
   rw [C.K] at h1;refine⟨a,rfl,⟨vs,h1⟩,o _ G1 H1 g1 ⟨yY h1 l1,fun z=>?_⟩⟩
   have rp:=t'.rep z
   simp only [Rep] at rp;obtain⟨a',BO,e1,h2,l2⟩:=rp
   cases e1;rw [C.K] at h2;exact yY h2.sq l2
  |str z=>exact False.elim o
  |int _=>exact False.elim o
  |bl _=>exact False.elim o
  |non=>exact False.elim o
  |exc _=>exact False.elim o
  |dct ks qs=>
   by_cases Ek:ff e=true
   ·have Nr:va e (.dct ks qs)=.ok (ks.map aq):=by
     cases e<;>first|rfl|exact absurd Ek zzf
    have o2:Out X W (va e (.dct ks qs)) σ G H fun ps=>∀(J:It) (G' H':Hp),aJ W G H G' H'→Ik W G' H' (Ci.I.seq e) J ps→R J H':=o
    rw [Nr] at o2;refine EM he pins s σ H R I (eg sr r fun v G1 H1 g1 t=>?_);have rp:=t.rep Ek
    simp only [Rep] at rp;obtain⟨a,ob,us,rfl,n,h1,l1⟩:=rp
    exact⟨a,ob,_,rfl,g1.sub _ _ h1,o2 _ G1 H1 g1 ⟨xS n (g1.sub _ _ h1),fun _=>xS n h1⟩⟩
   ·have:∃i,e=.tmp i:=by
     cases e<;>first|exact⟨_,rfl⟩|exact absurd rfl Ek
    obtain⟨i,rfl⟩:=this
    exact False.elim o
theorem dc{i:Int}(h:aP i=true): -(2^62)≤i∧i<2^62:=by
 unfold aP at h
 simpa using h
theorem Ej(C:du Γ F W N sc k X){tg p:Expr}{e:E}{np pos:Pos}(hg:iM sc "range"=true)(hb:Γ.bs.contains "range"=true)(dm:∀env ps,starEach (p::ps) env=(false,eval p env)::starEach ps env)(he:GE X W F e p):GI X W F tg (.rng e) (.Call (.Name "range" np) [p] [] pos):=by
 intro pins s σ H R I h;refine vJ (fy C hg) (C.bs _ (List.contains_iff_mem.mp hb)) (cI he d7 (dm _ _)) (dm _ _) pins s σ H R I ?_;obtain⟨H0,G,env,sr,o⟩:=h
 rw [aQ] at o;refine one sr o fun q v G1 H1 g1 t bL o1=>?_
 cases q with
 |int j=>
  by_cases hj:aP j=true
  ·have o2:Out X W (if aP j=true then Res.ok (dw 0 j.toNat) else .bad) σ G1 H1 _:=o1
   rw [if_pos hj] at o2;exact⟨j,by rw [t.top.int],(dc hj).1,(dc hj).2,o2 _ G1 H1 g1 ⟨n0 _ _,fun _=>n0 _ _⟩⟩
  ·have o2:Out X W (if aP j=true then Res.ok (dw 0 j.toNat) else .bad) σ G1 H1 _:=o1
   rw [if_neg hj] at o2;exact o2.elim
 |bl _=>exact False.elim o1
 |non=>exact False.elim o1
 |str _=>exact False.elim o1
 |tup _=>exact False.elim o1
 |lst _=>exact False.elim o1
 |exc _=>exact False.elim o1
 |dct _ _=>exact False.elim o1
theorem BE(C:du Γ F W N sc k X){tg p q:Expr}{a b:E}{np pos:Pos}(hg:iM sc "range"=true)(hb:Γ.bs.contains "range"=true)(dm:∀env ps,starEach (p::ps) env=(false,eval p env)::starEach ps env)(FW:∀env ps,starEach (q::ps) env=(false,eval q env)::starEach ps env)
 (ha:GE X W F a p) (lB:GE X W F b q):GI X W F tg (.rng2 a b) (.Call (.Name "range" np) [p,q] [] pos):=by
 intro pins s σ H R I h;refine vW (fy C hg) (C.bs _ (List.contains_iff_mem.mp hb)) (cI ha (cI lB d7 (FW _ _)) (dm _ _)) (by rw [dm,FW];rfl) (FW _ _) pins s σ H R I ?_;obtain⟨H0,G,env,sr,o⟩:=h
 rw [aQ] at o;refine one sr o fun x v G1 H1 g1 t bL o1=>one bL o1 fun y u G2 H2 g2 t2 eO o2=>?_
 cases x<;>cases y<;>first
  |(exact False.elim o2)
  | (rename_i i j
     by_cases hj:(aP i&&aP j)=true
     ·have o3:Out X W (if(aP i&&aP j)=true then Res.ok (dw i (j-i).toNat) else .bad) σ G2 H2 _:=o2
      rw [if_pos hj] at o3;rw [zza] at hj;exact⟨i,j,by rw [t.top.int,t2.top.int],⟨(dc hj.1).1,(dc hj.1).2,(dc hj.2).1,(dc hj.2).2⟩,o3 _ G2 H2 (g1.trans g2) ⟨n0 _ _,fun _=>n0 _ _⟩⟩
     ·have o3:Out X W (if(aP i&&aP j)=true then Res.ok (dw i (j-i).toNat) else .bad) σ G2 H2 _:=o2
      rw [if_neg hj] at o3;exact o3.elim)
theorem Bd(C:du Γ F W N sc k X){elts:List Expr}{x1:Nat}{jx:Pos}{p:Expr}{e:E}{np pos:Pos}(hg:iM sc "enumerate"=true)(hb:Γ.bs.contains "enumerate"=true)(dm:∀env ps,starEach (p::ps) env=(false,eval p env)::starEach ps env)(he:GE X W F e p):
 GI X W F (.Tuple elts x1 jx) (.enum e) (.Call (.Name "enumerate" np) [p] [] pos):=by
 intro pins s σ H R I h;have rY:=fy C hg
 have oW:=C.bs _ (List.contains_iff_mem.mp hb)
 have pa:=cI he d7 (dm _ _)
 obtain⟨H0,G,env,sr,o⟩:=h
 rw [aQ] at o;cases r:az F e env with
 |bad=>rw [r] at o;exact o.elim
 |exc c=>rw [r] at o;exact oU rY oW pa (dm _ _) pins s σ H R I (y9 sr r o)
 |ok q=>
  rw [r] at o;cases q with
  |lst xs=>
   refine oU rY oW pa (dm _ _) pins s σ H R I (eg sr r fun v G1 H1 g1 t=>?_)
   by_cases hz:ff e=true
   ·have rp:=t.rep hz
    simp only [Rep] at rp;obtain⟨a,vs,rfl,h2,l2⟩:=rp
    exact⟨a,vs,rfl,dW C.K (aF.ls g1.sub h2),o _ G1 H1 g1 ⟨kj C.K (aF.ls g1.sub h2) l2,fun _=>kj C.K h2 l2⟩⟩
   ·obtain⟨a,vs,rfl,h1,l1⟩:=t.top.lst g1.sub
    exact⟨a,vs,rfl,dW C.K h1,o _ G1 H1 g1 ⟨kj C.K h1 l1,fun z=>absurd z hz⟩⟩
  |tup xs=>
   refine xV rY oW pa (dm _ _) pins s σ H R I (eg sr r fun v G1 H1 g1 t=>?_);have t':=t.top
   rcases t' with rp|z
   ·simp only [Rep] at rp;obtain⟨a,vs,rfl,h2,l2⟩:=rp
    rw [C.K] at h2;exact⟨a,vs,rfl,aF.tup g1.sub h2.sq,o _ G1 H1 g1 ⟨pK (aF.tup g1.sub h2.sq) l2,fun z=>pK h2.sq l2⟩⟩
   ·exact z.elim
  |str z=>exact zv rY oW pa (dm _ _) pins s σ H R I (eg sr r fun v G1 H1 g1 t=>⟨z,by rw [t.top.str],o _ G1 H1 g1 ⟨pJ z,fun _=>pJ z⟩⟩)
  |int _=>exact False.elim o
  |bl _=>exact False.elim o
  |non=>exact False.elim o
  |exc _=>exact False.elim o
  |dct _ _=>exact False.elim o
end
end Ci
namespace Ci
open PySem L2
theorem vG{env:Env}{x:Str}{c:Addr}(h:env.cells.lookup x=some c):cellOf env x=pure c:=by
 unfold cellOf;rw [h]
def frees(names:List (Str×NameKind)):List Str:=((names.filter fun p=>p.2==.free).map (·.1)).reverse
theorem gE{scope:Scope}{env:Env}(h:∀y∈scope.names,y.2=.free→∃c,env.cells.lookup y.1=some c):closureFor scope env=pure (bJ env (freeOf scope)):=by
 simp only [closureFor];have key:∀(names:List (Str×NameKind)) (acc:List (Str×Addr)),(∀y∈names,y.2=.free→∃c,env.cells.lookup y.1=some c)→
  (forIn (m:=Sem) names acc fun x r=>if(x.2==NameKind.free)=true then do
   let c←cellOf env x.1
   pure (ForInStep.yield ((x.1,c)::r))
   else pure (ForInStep.yield r))=pure (bJ env (frees names)++acc):=by
  intro names
  induction names with
  |nil=>intro acc _;rfl
  |cons p r ih=>
   intro acc hh;obtain⟨n,kd⟩:=p
   rw [List.forIn_cons]
   by_cases hk:(kd==NameKind.free)=true
   ·obtain⟨c,hc⟩:=hh (n,kd) (by simp) (beq_iff_eq.mp hk)
    simp only [hk,if_true,vG hc,pure_bind];rw [ih ((n,c)::acc) fun y hy=>hh y (List.mem_cons_of_mem _ hy)]
    have e:frees ((n,kd)::r)=frees r++[n]:=by
     unfold frees;rw [List.filter_cons,if_pos hk,List.map_cons,List.reverse_cons]
    rw [e];unfold bJ;rw [List.map_append,List.map_cons,List.map_nil,List.append_assoc];show _=pure (_++([(n,(env.cells.lookup n).getD 0)]++acc))
    rw [show env.cells.lookup n=some c from hc]
    rfl
   ·simp only [hk,Bool.false_eq_true,if_false,pure_bind];rw [ih acc fun y hy=>hh y (List.mem_cons_of_mem _ hy)]
    have e:frees ((n,kd)::r)=frees r:=by
     unfold frees;rw [List.filter_cons,if_neg hk]
    rw [e]
 have:=key scope.names [] h
 rw [List.append_nil] at this;simp only [bind_pure_comp,map_pure,id_map',bind_pure];exact this
section
variable{Γ:Pg}{X:Cx}{W:Wd}{F:aV}{N:List Str}{sc:Scope}{k:Nat}
theorem ei{scope:Scope}(h:X.env.scope=sc):relabel scope X.env=cW scope sc:=by
 subst h
 rfl
structure j3(N:List Str)(sc scope:Scope)(kk:Nat)(ba:List Nat)(xs:List Str):Prop where
 kind:scope.kind=.function
 len:xs.length=kk
 nd:(xs++freeOf scope).Nodup
 cov:(scope.names.all fun y=>(decide (y.2≠.cell)||!(freeOf scope).contains y.1)&&(decide (y.2≠.free)||(freeOf scope).contains y.1))=true
 own:(scope.names.all fun y=>decide (y.2≠.cell)||decide (scope.names.lookup y.1=some .cell))=true
 names:(scope.names.all fun y=>decide (y.2≠.local)||decide (scope.names.lookup y.1=some .local))=true
 slots:ba.map (fun i=>N[i]?)=(freeOf scope).map some
 kX:((freeOf scope).all fun y=>decide (sc.names.lookup y=some .cell))=true
 kY:((freeOf scope).all fun y=>decide ((cW scope sc).names.lookup y=some .cell))=true
theorem hX{scope:Scope}{kk:Nat}{ba:List Nat}{xs:List Str}(h:tX N sc scope kk ba xs=true):j3 N sc scope kk ba xs:=by
 unfold tX at h;simp only [zza] at h;obtain⟨⟨⟨⟨⟨⟨⟨⟨h1,h2⟩,h3⟩,h4⟩,h9⟩,h5⟩,h6⟩,h7⟩,h8⟩:=h
 exact⟨beq_iff_eq.mp h1,beq_iff_eq.mp h2,of_decide_eq_true h3,h4,h9,h5,of_decide_eq_true h6,h7,h8⟩
theorem nN(hN:X.N=N)(hsc:X.env.scope=sc)(ok:X.Ok){scope:Scope}{kk:Nat}{ba:List Nat}{xs:List Str}(h:j3 N sc scope kk ba xs):dQ X scope xs (freeOf scope) ba:=by
 have dC:∀y∈freeOf scope,∃c,X.env.cells.lookup y=some c:=fun y hy=>ok.has y (.inl (by
  have:=of_decide_eq_true (List.all_eq_true.mp h.kX y hy)
  show X.env.scope.names.lookup y=_
  rw [hsc];exact this))
 refine⟨h.kind,gE fun y hy hf=>?_,List.all_eq_true.mpr fun y hy=>?_,h.cov,h.own,h.names,by rw [hN];exact h.slots,List.all_eq_true.mpr fun y hy=>?_,?_⟩
 ·have c:=List.all_eq_true.mp h.cov y hy
  rw [zza,Bool.or_eq_true,Bool.or_eq_true] at c;rcases c.2 with z|z
  ·exact absurd hf (of_decide_eq_true z)
  ·exact dC _ (List.contains_iff_mem.mp z)
 ·obtain⟨c,hc⟩:=dC y hy
  rw [hc];rfl
 ·have:=of_decide_eq_true (List.all_eq_true.mp h.kX y hy)
  refine decide_eq_true ?_;show X.env.scope.names.lookup y=_
  rw [hsc];exact this
 ·rw [ei hsc];exact h.kY
theorem gK{f:PV→Res (Option PV)}{x:PV}:∀{xs:List PV},bp f (xs++[x])=(bp f xs).bind fun ys=>(f x).well.bind fun o=>.ok (ys++o.toList)
 |[]=>by
  simp only [List.nil_append,bp,Res.bind];cases(f x).well with
  |ok o=>cases o<;>rfl
  |exc c=>rfl
  |bad=>rfl
 |y::xs=>by
  rw [List.cons_append];simp only [bp];rw [gK (xs:=xs)];cases(f y).well with
  |exc c=>rfl
  |bad=>rfl
  |ok o=>
   show(((bp f xs).bind fun ys=>(f x).well.bind fun o=>.ok (ys++o.toList)).bind fun ys=>.ok (oc o ys))=((bp f xs).bind fun ys=>.ok (oc o ys)).bind fun ys=>(f x).well.bind fun o=>.ok (ys++o.toList)
   cases bp f xs with
   |exc c=>rfl
   |bad=>rfl
   |ok zs=>
    show(((f x).well.bind fun o=>.ok (zs++o.toList)).bind fun ys=>.ok (oc o ys))=(f x).well.bind fun o2=>.ok ((oc o zs)++o2.toList)
    cases(f x).well with
    |exc c=>rfl
    |bad=>rfl
    |ok o2=>cases o<;>rfl
theorem j9{f:PV→Res (Option PV)}:∀{xs ys:List PV},bp f xs=.ok ys→∀i,∃zs,bp f (xs.take i)=.ok zs∧zs.length≤i
 |_,_,_,0=>⟨[],by simp [bp],Nat.le_refl _⟩
 |[],ys,h,i+1=>⟨[],by simp [bp],Nat.zero_le _⟩
 |x::xs,ys,h,i+1=>by
  simp only [bp] at h;obtain⟨o,ho,h⟩:=Res.bind_ok h
  obtain⟨zs,hz,h⟩:=Res.bind_ok h
  obtain⟨ws,hw,hl⟩:=j9 hz i
  refine⟨oc o ws,?_,?_⟩
  ·rw [List.take_succ_cons];simp only [bp];rw [ho];show((bp f (xs.take i)).bind fun ys=>.ok (oc o ys))=_
   rw [hw]
   rfl
  ·cases o with
   |none=>exact Nat.le_succ_of_le hl
   |some y=>exact Nat.succ_le_succ hl
theorem BP{α:Type}{r:Res α}{a:α}(h:r.well=.ok a):r=.ok a:=by
 cases r with
 |ok b=>cases h;rfl
 |exc c=>cases h
 |bad=>cases h
theorem pQ{f:PV→Res (Option PV)}{xs ys zs:List PV}{i:Nat}{x:PV}(h:bp f xs=.ok ys)(hx:xs[i]?=some x)(hz:bp f (xs.take i)=.ok zs):∃o,f x=.ok o∧bp f (xs.take (i+1))=.ok (zs++o.toList):=by
 have e:xs.take (i+1)=xs.take i++[x]:=by rw [List.take_add_one,hx];rfl
 obtain⟨ws,hw,_⟩:=j9 h (i+1)
 rw [e,gK,hz] at hw;obtain⟨o,ho,hw⟩:=Res.bind_ok (show((f x).well.bind fun o=>Res.ok (zs++o.toList))=.ok ws from hw)
 refine⟨o,BP ho,?_⟩;rw [e,gK,hz];show((f x).well.bind fun o=>Res.ok (zs++o.toList))=_
 rw [ho]
 rfl
theorem qw{H0 G H:Hp}{env:Sl}{σ:St}{ba:List Nat}{ys:List Str}(kk:Nat)(sr:SR W H0 env σ G H)(hs:ba.map (fun i=>N[i]?)=ys.map some)(nd:ys.Nodup):SR W H0 (List.replicate kk .no++aw env ba) (List.replicate kk none++wQ σ ba) G H:=by
 have NR:∀(i j:Nat) (a:Nat),ba[i]?=some a→ba[j]?=some a→i=j:=fun i j a h1 h2=>by
  have e1:(ys.map some)[i]?=some (N[a]?):=by rw [←hs,List.getElem?_map,h1];rfl
  have e2:(ys.map some)[j]?=some (N[a]?):=by rw [←hs,List.getElem?_map,h2];rfl
  rw [List.getElem?_map] at e1 e2;obtain⟨y1,g1,q1⟩:=Option.map_eq_some_iff.mp e1
  obtain⟨y2,g2,q2⟩:=Option.map_eq_some_iff.mp e2
  have:y1=y2:=Option.some.inj (q1.trans q2.symm)
  subst this;exact j1 nd g1 g2
 have inner:∀(j:Nat) (s:Slot),(List.replicate kk Slot.no++aw env ba)[j]?=some s→(j<kk∧s=.no)∨∃a,kk≤j∧ba[j-kk]?=some a∧s=env.getD a .no:=fun j s e=>by
  by_cases hj:j<kk
  ·rw [List.getElem?_append_left (by simpa using hj),List.getElem?_replicate,if_pos hj] at e;cases e;exact .inl ⟨hj,rfl⟩
  ·rw [List.getElem?_append_right (by simpa using hj),List.length_replicate] at e;unfold aw at e;rw [List.getElem?_map] at e;obtain⟨a,ha,rfl⟩:=Option.map_eq_some_iff.mp e
   exact .inr ⟨a,by omega,ha,rfl⟩
 have val:∀(j a:Nat),kk≤j→ba[j-kk]?=some a→(List.replicate kk none++wQ σ ba)[j]?=some ((σ[a]?).join):=fun j a hj ha=>by
  rw [List.getElem?_append_right (by simpa using hj),List.length_replicate];unfold wQ;rw [List.getElem?_map,ha]
  rfl
 refine⟨by unfold aw wQ;simp,sr.sub,sr.base,fun j s e=>?_,fun i j p q a e1 e2 e3 e4=>?_,sr.tab,sr.tab0⟩
 ·rcases inner j s e with⟨hj,rfl⟩|⟨a,hj,ha,rfl⟩
  ·exact⟨none,by rw [List.getElem?_append_left (by simpa using hj),List.getElem?_replicate,if_pos hj],trivial⟩
  ·refine⟨_,val j a hj ha,?_⟩;rw [List.getD_eq_getElem?_getD];cases e1:env[a]? with
   |none=>exact trivial
   |some s=>
    obtain⟨o,h1,h2⟩:=sr.slot a s e1
    rw [h1];exact h2
 ·rcases inner i _ e1 with⟨_,z⟩|⟨b,hi,hb,z1⟩
  ·cases z
  rcases inner j _ e2 with⟨_,z⟩|⟨c,hj,hc,z2⟩
  ·cases z
  rw [val i b hi hb] at e3;rw [val j c hj hc] at e4;have f1:env[b]?=some (.own p):=by
   rw [List.getD_eq_getElem?_getD] at z1;cases e:env[b]? with
   |none=>rw [e] at z1;cases z1
   |some s=>rw [e] at z1;exact congrArg some z1.symm
  have f2:env[c]?=some (.own q):=by
   rw [List.getD_eq_getElem?_getD] at z2;cases e:env[c]? with
   |none=>rw [e] at z2;cases z2
   |some s=>rw [e] at z2;exact congrArg some z2.symm
  have g1:σ[b]?=some (some (.ref a)):=Option.join_eq_some_iff.mp (Option.some.inj e3)
  have g2:σ[c]?=some (some (.ref a)):=Option.join_eq_some_iff.mp (Option.some.inj e4)
  have bc:=sr.apart b c p q a f1 f2 g1 g2
  subst bc;have:=NR _ _ b hb hc
  omega
theorem iG{H0 G H:Hp}{kk:Nat}{rest aE:Sl}{σ:St}{tg:Tg}{p:PV}(cq:jX kk tg=true)(e:Tg.put tg p (List.replicate kk .no++rest)=.ok aE)(r:SR W H0 aE σ G H):SR W H0 (List.replicate kk .no++rest) σ G H:=by
 have key:∀(j:Nat) (s:Slot),(List.replicate kk Slot.no++rest)[j]?=some s→s≠.no→aE[j]?=some s:=fun j s h hs=>by
  have EA:¬j<kk:=fun z=>by
   rw [List.getElem?_append_left (by simpa using z),List.getElem?_replicate,if_pos z] at h;cases h;exact hs rfl
  unfold Tg.put at e;split at e
  ·cases e;unfold jX at cq;simp only [decide_eq_true_eq] at cq;rw [List.getElem?_set_ne (by omega)];exact h
  ·cases e;unfold jX at cq;simp only [zza,decide_eq_true_eq] at cq;rw [List.getElem?_set_ne (by omega),List.getElem?_set_ne (by omega)];exact h
  ·cases e
 have hlen:(List.replicate kk Slot.no++rest).length=σ.length:=by
  rw [←r.len];unfold Tg.put at e;split at e<;>first|(cases e;simp;done)|(cases e;done)
 refine⟨hlen,r.sub,r.base,fun j s h=>?_,fun i j p q a e1 e2 e3 e4=>r.apart i j p q a (key i _ e1 (fun z=>nomatch z)) (key j _ e2 (fun z=>nomatch z)) e3 e4,r.tab,r.tab0⟩
 by_cases hs:s=.no
 ·subst hs;have:j<σ.length:=by rw [←hlen];exact(List.getElem?_eq_some_iff.mp h).1
  exact⟨σ[j],zzg this,trivial⟩
 ·exact r.slot j s (key j s h hs)
end
end Ci
namespace Ci
open PySem L2
section
variable{Γ:Pg}{X:Cx}{W:Wd}{F:aV}{N:List Str}{sc:Scope}{k:Nat}
noncomputable def tN(W:Wd)(F:aV)(e:E):TE:=fun σ H Q=>∃H0 G env,SR W H0 env σ G H∧∃p,az F e env=.ok p∧∀v G' H',aJ W G H G' H'→Got W H0 G' H' e p v→Q v H'
noncomputable def Jg(W:Wd)(F:aV)(e:E):TT:=fun σ H Q=>∃H0 G env,SR W H0 env σ G H∧∃b,az F e env=.ok (.bl b)∧∀G' H',aJ W G H G' H'→Q b H'
theorem tm{e:E}(σ:St)(H:Hp)(Q:VK)(h:tN W F e σ H Q):tE X W F e σ H Q:=by
 obtain⟨H0,G,env,sr,p,e1,q⟩:=h
 exact⟨H0,G,env,sr,by rw [e1];exact q⟩
theorem xI{e:E}(σ:St)(H:Hp)(Q:Bool→Hp→Prop)(h:Jg W F e σ H Q):tT X W F e σ H Q:=by
 obtain⟨H0,G,env,sr,p,e1,q⟩:=h
 exact⟨H0,G,env,sr,by rw [e1];exact⟨p,rfl,q⟩⟩
theorem en(C:du Γ F W N sc k X){scope:Scope}{kk:Nat}{ba:List Nat}{xs:List Str}(h:j3 N sc scope kk ba xs)(fp:List Addr)(s1:Shared)(H1:Hp)(A:Addr):du Γ.nol F W (xs++freeOf scope) (cW scope sc) k (bW X (xs++freeOf scope) scope (bJ X.env (freeOf scope)) fp s1 H1 A):=
 ⟨rfl,ei C.hsc,rfl,h.nd,C.K,C.mg,C.gs,C.bs,C.room,fun f hf=>⟨(C.fns f hf).ex⟩,C.nov,C.cls,C.xc,fun q hq=>⟨(C.hfs q hq).ex⟩,C.any,(fun z=>nomatch z),(fun z=>nomatch z),(fun z=>nomatch z)⟩
theorem Fo{e:E}{p:Expr}(h:aZ Γ N sc e p=true)(env:Env):∀x,foldedSetIterable p env x=pure x:=by
 intro x;cases p<;>first|rfl|(cases e<;>first|(exact absurd h zzf)|(rename_i q;cases q<;>exact absurd h zzf))
theorem ib{tg:Expr}{it:I}{p:Expr}(h:uU Γ N sc tg it p=true)(env:Env):∀x,foldedSetIterable p env x=pure x:=by
 intro x;cases it with
 |seq e=>exact Fo h env x
 |rng e=>cases p<;>first|rfl|(exact absurd h zzf)
 |rng2 a b=>cases p<;>first|rfl|(exact absurd h zzf)
 |enum e=>cases p<;>first|rfl|(exact absurd h zzf)
def CW(W:Wd)(H0 G1 H1:Hp)(env0:Sl)(f:PV→Res (Option PV))(ps:List PV)(i:Nat)(ys:List V)(σ':St)(H':Hp):Prop:=
 i≤ps.length∧∃G',aJ W G1 H1 G' H'∧SR W H0 env0 σ' G' H'∧∃zs,bp f (ps.take i)=.ok zs∧zs.length≤i∧ak W G' zs ys
theorem sZ(hK:W.K=X.K){kk:Nat}{ba:List Nat}{tg:Tg}{it:I}{elt:E}{ys:List Str}(cq:jX kk tg=true)(dk:ff elt=true)(hs:ba.map (fun i=>N[i]?)=ys.map some)(nd:ys.Nodup)(σ:St)(H:Hp)(Q:VK)(h:tF X W F (.comp kk ba tg it elt) σ H Q):
 yE (tI X W F it) kk (gT X.K tg) (tN W F elt) ba σ H Q:=by
 obtain⟨H0,G,env,sr,o⟩:=h
 rw [az] at o;refine⟨H0,G,env,sr,o.bind.imp fun ps i6 J G1 H1 g1 gi=>?_⟩
 by_cases vm:¬ps.length<dF
 ·rw [if_neg vm] at i6;exact i6.elim
 have hl:=Decidable.not_not.mp vm
 rw [if_pos hl] at i6;generalize hf:(fun x=>(tg.put x (List.replicate kk .no++aw env ba)).bind fun aE=>(az F elt aE).bind fun y=>Res.ok (some y))=f at i6
 cases hc:bp f ps with
 |bad=>rw [hc] at i6;exact i6.elim
 |exc c=>
  exfalso
  have:∀(l:List PV) (c:Str),bp f l≠.exc c:=fun l=>by
   induction l with
   |nil=>intro c z;cases z
   |cons a l ih=>
    intro c z;simp only [bp] at z;rcases Res.bind_exc z with z|⟨o1,_,z⟩
    ·cases e:f a with
     |ok _=>rw [e] at z;cases z
     |exc _=>rw [e] at z;cases z
     |bad=>rw [e] at z;cases z
    ·rcases Res.bind_exc z with z|⟨o2,_,z⟩
     ·exact ih c z
     ·cases z
  exact this _ _ hc
 |ok all=>
  rw [hc] at i6;obtain⟨xs,e1,fin⟩:=i6
  cases e1;have bL:=sr.grow g1
  refine⟨ps.length,CW W H0 G1 H1 (List.replicate kk .no++aw env ba) f ps,⟨Nat.zero_le _,G1,.refl g1.sub,qw kk bL hs nd,[],rfl,Nat.le_refl _,.nil⟩,?_⟩
  rintro i made σ' H' ⟨hi,G',g',sr',zs,hz,G7,l⟩
  refine⟨by rw [l.length];exact Nat.lt_of_le_of_lt (Nat.le_trans G7 hi) (Nat.lt_of_lt_of_le hl (by decide)),?_⟩;obtain⟨ist,igo⟩:=gi.any i G' H' g'.g g'.h g'.sub
  by_cases hlast:i=ps.length
  ·refine .inl ⟨ist hlast,fun p hp=>?_⟩
   rw [hlast,List.take_length,hc] at hz;cases hz;exact fin p made G' H' (g1.trans g') hp l
  ·have kZ:i<ps.length:=by omega
   obtain⟨hgo,hyld⟩:=igo ps[i] (zzg kZ)
   refine .inr ⟨hgo,kZ,fun x k8 hy=>?_⟩
   obtain⟨tO,g'',rx⟩:=hyld x k8 hy
   obtain⟨o1,ho,hnext⟩:=pQ hc (zzg kZ) hz
   rw [←hf] at ho;obtain⟨aE,he',ho⟩:=Res.bind_ok ho
   obtain⟨y,Eu,ho⟩:=Res.bind_ok ho
   cases ho;refine qR hK he' (sr'.grow g'') rx fun σ2 eO=>⟨H0,tO,aE,eO,y,Eu,fun v G3 H3 g3 t=>?_⟩
   refine⟨kZ,G3,g'.trans (g''.trans g3),(iG cq he' eO).grow g3,_,hnext,?_,?_⟩
   ·rw [List.length_append];show zs.length+1≤i+1;omega
   ·exact(ak.same (g''.trans g3).g zs l).append (.cons (t.rep dk) .nil)
theorem lU(hK:W.K=X.K){kk:Nat}{ba:List Nat}{tg:Tg}{it:I}{c elt:E}{ys:List Str}(cq:jX kk tg=true)(dk:ff elt=true)(hs:ba.map (fun i=>N[i]?)=ys.map some)(nd:ys.Nodup)(σ:St)(H:Hp)(Q:VK)(h:tF X W F (.compIf kk ba tg it c elt) σ H Q):
 i8 (tI X W F it) kk (gT X.K tg) (Jg W F c) (tN W F elt) ba σ H Q:=by
 obtain⟨H0,G,env,sr,o⟩:=h
 rw [az] at o;refine⟨H0,G,env,sr,o.bind.imp fun ps i6 J G1 H1 g1 gi=>?_⟩
 by_cases vm:¬ps.length<dF
 ·rw [if_neg vm] at i6;exact i6.elim
 have hl:=Decidable.not_not.mp vm
 rw [if_pos hl] at i6;generalize hf:(fun x=>(tg.put x (List.replicate kk .no++aw env ba)).bind fun aE=>(az F c aE).bind fun t=>qA t fun t=>if t then(az F elt aE).bind fun y=>Res.ok (some y) else .ok none)=f at i6
 cases hc:bp f ps with
 |bad=>rw [hc] at i6;exact i6.elim
 |exc c=>
  exfalso
  have:∀(l:List PV) (c:Str),bp f l≠.exc c:=fun l=>by
   induction l with
   |nil=>intro c z;cases z
   |cons a l ih=>
    intro c z;simp only [bp] at z;rcases Res.bind_exc z with z|⟨o1,_,z⟩
    ·cases e:f a with
     |ok _=>rw [e] at z;cases z
     |exc _=>rw [e] at z;cases z
     |bad=>rw [e] at z;cases z
    ·rcases Res.bind_exc z with z|⟨o2,_,z⟩
     ·exact ih c z
     ·cases z
  exact this _ _ hc
 |ok all=>
  rw [hc] at i6;obtain⟨xs,e1,fin⟩:=i6
  cases e1;have bL:=sr.grow g1
  refine⟨ps.length,CW W H0 G1 H1 (List.replicate kk .no++aw env ba) f ps,⟨Nat.zero_le _,G1,.refl g1.sub,qw kk bL hs nd,[],rfl,Nat.le_refl _,.nil⟩,?_⟩
  rintro i made σ' H' ⟨hi,G',g',sr',zs,hz,G7,l⟩
  refine⟨by rw [l.length];exact Nat.lt_of_le_of_lt (Nat.le_trans G7 hi) (Nat.lt_of_lt_of_le hl (by decide)),?_⟩;obtain⟨ist,igo⟩:=gi.any i G' H' g'.g g'.h g'.sub
  by_cases hlast:i=ps.length
  ·refine .inl ⟨ist hlast,fun p hp=>?_⟩
   rw [hlast,List.take_length,hc] at hz;cases hz;exact fin p made G' H' (g1.trans g') hp l
  ·have kZ:i<ps.length:=by omega
   obtain⟨hgo,hyld⟩:=igo ps[i] (zzg kZ)
   refine .inr ⟨hgo,kZ,fun x k8 hy=>?_⟩
   obtain⟨tO,g'',rx⟩:=hyld x k8 hy
   obtain⟨o1,ho,hnext⟩:=pQ hc (zzg kZ) hz
   rw [←hf] at ho;obtain⟨aE,he',ho⟩:=Res.bind_ok ho
   obtain⟨t,ht,ho⟩:=Res.bind_ok ho
   obtain⟨b,rfl⟩:∃b,t=.bl b:=by
    cases t<;>first|exact⟨_,rfl⟩|(cases ho)
   refine qR hK he' (sr'.grow g'') rx fun σ2 eO=>⟨H0,tO,aE,eO,b,ht,fun G3 H3 g3=>?_⟩
   have eN:(if b=true then(az F elt aE).bind fun y=>Res.ok (some y) else .ok none)=Res.ok o1:=ho
   cases b with
   |true=>
    rw [if_pos rfl] at eN;refine Ld ?_;obtain⟨y,Eu,eN⟩:=Res.bind_ok eN
    cases eN;refine⟨H0,G3,aE,eO.grow g3,y,Eu,fun v G4 H4 g4 t4=>?_⟩
    refine⟨kZ,G4,g'.trans (g''.trans (g3.trans g4)),(iG cq he' eO).grow (g3.trans g4),_,hnext,?_,?_⟩
    ·rw [List.length_append];show zs.length+1≤i+1;omega
    ·exact(ak.same (g''.trans (g3.trans g4)).g zs l).append (.cons (t4.rep dk) .nil)
   |false=>
    rw [if_neg zzf] at eN;refine LW ?_;cases eN;refine⟨kZ,G3,g'.trans (g''.trans g3),(iG cq he' eO).grow g3,_,hnext,?_,?_⟩
    ·rw [List.length_append];show zs.length+0≤i+1;omega
    ·show ak W G3 (zs++[]) made
     rw [List.append_nil];exact ak.same (g''.trans g3).g zs l
theorem sX(C:du Γ F W N sc k X){kk:Nat}{ba:List Nat}{tg:Tg}{it:I}{elt:E}{cy eG dq:Expr}{scope:Scope}{pos:Pos}(h:j3 N sc scope kk ba (aO cy))(cq:jX kk tg=true)(dk:ff elt=true)(hi:GI X W F cy it eG)(hfs:∀x,foldedSetIterable eG X.env x=pure x)
 (yy:fT (aO cy++freeOf scope) (cW scope sc) (jY scope) tg cy=true) (he:∀Y,du Γ.nol F W (aO cy++freeOf scope) (cW scope sc) k Y→GE Y W F elt dq):GF X W F (.comp kk ba tg it elt) (.ListComp dq [⟨cy,eG,[],0⟩] scope pos):=by
 intro pins s σ H Q I hq;have Eo:(freeOf scope).Nodup:=(List.nodup_append.mp h.nd).2.1
 have rd:=sZ (N:=N) C.K cq dk h.slots Eo σ H Q hq
 have:=Ck (g:=gT X.K tg) (te:=tN W F elt) (xs:=aO cy) (ys:=freeOf scope) (is:=ba) (pos:=pos) C.calm (nN C.hN C.hsc I.ok h) hi
  (fun fp s1 H1 A=>y8 (fn:=jY scope) (X:=bW X (aO cy++freeOf scope) scope (bJ X.env (freeOf scope)) fp s1 H1 A) rfl h.nd (ei C.hsc) rfl (fun _ z=>z) yy)
  (fun fp s1 H1 A=>L2.PE.imp (he _ (en C h fp s1 H1 A)) fun σ H Q z=>tm σ H Q z) hfs pins s σ H Q I
 rw [h.len] at this;exact this rd
theorem lK(C:du Γ F W N sc k X){kk:Nat}{ba:List Nat}{tg:Tg}{it:I}{c elt:E}{cy eG pc dq:Expr}{scope:Scope}{pos:Pos}(h:j3 N sc scope kk ba (aO cy))(cq:jX kk tg=true)(dk:ff elt=true)(hi:GI X W F cy it eG)(hfs:∀x,foldedSetIterable eG X.env x=pure x)
 (yy:fT (aO cy++freeOf scope) (cW scope sc) (jY scope) tg cy=true) (hc:∀Y,du Γ.nol F W (aO cy++freeOf scope) (cW scope sc) k Y→GT Y W F c pc) (he:∀Y,du Γ.nol F W (aO cy++freeOf scope) (cW scope sc) k Y→GE Y W F elt dq):
 GF X W F (.compIf kk ba tg it c elt) (.ListComp dq [⟨cy,eG,[pc],0⟩] scope pos):=by
 intro pins s σ H Q I hq;have Eo:(freeOf scope).Nodup:=(List.nodup_append.mp h.nd).2.1
 have rd:=lU (N:=N) C.K cq dk h.slots Eo σ H Q hq
 have:=vj (g:=gT X.K tg) (tt:=Jg W F c) (te:=tN W F elt) (xs:=aO cy) (ys:=freeOf scope) (is:=ba) (pos:=pos) C.calm (nN C.hN C.hsc I.ok h) hi
  (fun fp s1 H1 A=>y8 (fn:=jY scope) (X:=bW X (aO cy++freeOf scope) scope (bJ X.env (freeOf scope)) fp s1 H1 A) rfl h.nd (ei C.hsc) rfl (fun _ z=>z) yy)
  (fun fp s1 H1 A=>L2.PT.imp (hc _ (en C h fp s1 H1 A)) fun σ H Q z=>xI σ H Q z)
  (fun fp s1 H1 A=>L2.PE.imp (he _ (en C h fp s1 H1 A)) fun σ H Q z=>tm σ H Q z) hfs pins s σ H Q I
 rw [h.len] at this;exact this rd
end
end Ci
namespace Ci
open PySem L2
section
variable{W:Wd}{Z:List (Addr×Obj)}{G H:Hp}
mutual
theorem Rep.less(zs:∀b o,Z.lookup b=some o→G b=some (.frz o bK)):∀(p:PV) {v:V},Rep W G p v→Rep W (bf Z G) p v
 |.non,_,h=>by simpa only [Rep] using h
 |.bl b,_,h=>by simpa only [Rep] using h
 |.int i,_,h=>by simpa only [Rep] using h
 |.str z,_,h=>by simpa only [Rep] using h
 |.tup xs,_,h=>by
  simp only [Rep] at h⊢;obtain⟨a,vs,e,q,l⟩:=h
  refine⟨a,vs,e,?_,ak.less zs xs l⟩;rcases q with q|⟨(q|⟨o,q⟩)|q,z⟩
  ·cases y:Z.lookup a with
   |none=>exact .inl (by rw [aC y];exact q)
   |some o'=>rw [zs a o' y] at q;cases q
  ·cases y:Z.lookup a with
   |none=>exact .inl (by rw [aC y];exact q)
   |some o'=>rw [zs a o' y] at q;cases q
  ·cases y:Z.lookup a with
   |none=>exact .inr ⟨.inl (.inr ⟨o,by rw [aC y];exact q⟩),z⟩
   |some o'=>rw [zs a o' y] at q;cases q
  ·exact .inr ⟨.inr q,z⟩
 |.lst xs,_,h=>by
  simp only [Rep] at h⊢;obtain⟨a,vs,e,q,l⟩:=h
  refine⟨a,vs,e,?_,ak.less zs xs l⟩;rcases q with(q|⟨o,q⟩)|q
  ·cases y:Z.lookup a with
   |none=>exact .inl (.inl (by rw [aC y];exact q))
   |some o'=>rw [zs a o' y] at q;cases q
  ·cases y:Z.lookup a with
   |none=>exact .inl (.inr ⟨o,by rw [aC y];exact q⟩)
   |some o'=>rw [zs a o' y] at q;cases q
  ·exact .inr q
 |.exc c,_,h=>by
  simp only [Rep] at h⊢;obtain⟨a,C,e,x,m,q⟩:=h
  cases y:Z.lookup a with
  |none=>exact⟨a,C,e,x,m,by rw [aC y];exact q⟩
  |some o'=>
   rw [zs a o' y] at q;unfold IG at q;cases q
 |.dct ks vs,_,h=>by
  simp only [Rep] at h⊢;obtain⟨a,o,us,e,n,m,l⟩:=h
  refine⟨a,o,us,e,n,?_,ak.less zs vs l⟩;cases y:Z.lookup a with
  |none=>rw [aC y];exact m
  |some o'=>rw [zs a o' y] at m;cases m
theorem ak.less(zs:∀b o,Z.lookup b=some o→G b=some (.frz o bK)):∀(ps:List PV) {vs:List V},ak W G ps vs→ak W (bf Z G) ps vs
 |[],_,h=>by simpa only [ak] using h
 |p::ps,_,h=>by
  simp only [ak] at h⊢;obtain⟨v,r,e,h1,h2⟩:=h
  exact⟨v,r,e,Rep.less zs p h1,ak.less zs ps h2⟩
end
theorem kD(t:cD W G H)(sg:aF G H)(zs:∀b o,Z.lookup b=some o→G b=some (.frz o bK))(zc:∀b o,Z.lookup b=some o→∃v,o.data=.cell v):cD W (bf Z G) (bf Z H):=fun P q m=>by
 obtain⟨n,ps,e,tr,al⟩:=t P q m
 refine⟨gz n,ps,?_,tr,fun pos cv y=>?_⟩
 ·cases y:Z.lookup P with
  |none=>rw [aC y];exact e
  |some o=>rw [sg _ _ (zs P o y)] at e;cases e
 ·obtain⟨c',oc,cU,t',e1,e2,e3,e4⟩:=al pos cv y
  refine⟨c',oc,cU,t',e1,?_,e3,e4⟩;cases y:Z.lookup c' with
  |none=>rw [aC y];exact e2
  |some o=>
   rw [zs c' o y] at e2;cases e2;obtain⟨v,hv⟩:=zc c' _ y
   rw [e3] at hv;cases hv
theorem aJ.wz{G3 H3:Hp}(g:aJ W (bf Z G) (bf Z H) G3 H3)(sg:aF G H)(zs:∀b o,Z.lookup b=some o→G b=some (.frz o bK))(zc:∀b o,Z.lookup b=some o→∃v,o.data=.cell v)(zn:∀b o,Z.lookup b=some o→H3 b=none):aJ W G H (withZ Z G3) (withZ Z H3) where
 g:=fun b u e=>by
  cases y:Z.lookup b with
  |none=>rw [aj y];exact g.g _ _ (by rw [aC y];exact e)
  |some o=>rw [bg y];rw [zs b o y] at e;exact e
 h:=fun b u e=>by
  cases y:Z.lookup b with
  |none=>rw [aj y];exact g.h _ _ (by rw [aC y];exact e)
  |some o=>
   rw [sg _ _ (zs b o y)] at e;cases e;exact .inl ⟨(fun _ z=>nomatch z),bg y⟩
 sub:=fun b u e=>by
  cases y:Z.lookup b with
  |none=>rw [aj y] at e⊢;exact g.sub _ _ e
  |some o=>rw [bg y] at e⊢;exact e
 own:=fun a h1 h3 h2=>by
  cases y:Z.lookup a with
  |none=>rw [aj y];exact g.own a (by rw [aC y];exact h1) (by rw [aC y];exact h3) (by rw [aC y];exact h2)
  |some o=>rw [zs a o y] at h2;cases h2
 tab:=fun t P q m=>by
  obtain⟨n,ps,e,tr,al⟩:=g.tab (kD t sg zs zc) P q m
  refine⟨?_,ps,?_,tr,fun pos cv y=>?_⟩
  ·cases y:Z.lookup P with
   |none=>rw [aj y];exact n
   |some o=>rw [zn P o y] at e;cases e
  ·cases y:Z.lookup P with
   |none=>rw [aj y];exact e
   |some o=>rw [zn P o y] at e;cases e
  ·obtain⟨c',oc,cU,t',e1,e2,e3,e4⟩:=al pos cv y
   refine⟨c',oc,cU,t',e1,?_,e3,e4⟩;cases y:Z.lookup c' with
   |none=>rw [aj y];exact e2
   |some o=>have:=g.sub _ _ e2;rw [zn c' o y] at this;cases this
theorem pf(t:cD W G H)(sg:aF G H)(zn:∀b o,Z.lookup b=some o→H b=none):cD W (withZ Z G) (withZ Z H):=fun P q m=>by
 obtain⟨n,ps,e,tr,al⟩:=t P q m
 refine⟨?_,ps,?_,tr,fun pos cv y=>?_⟩
 ·cases y:Z.lookup P with
  |none=>rw [aj y];exact n
  |some o=>rw [zn P o y] at e;cases e
 ·cases y:Z.lookup P with
  |none=>rw [aj y];exact e
  |some o=>rw [zn P o y] at e;cases e
 ·obtain⟨c',oc,cU,t',e1,e2,e3,e4⟩:=al pos cv y
  refine⟨c',oc,cU,t',e1,?_,e3,e4⟩;cases y:Z.lookup c' with
  |none=>rw [aj y];exact e2
  |some o=>have:=sg _ _ e2;rw [zn c' o y] at this;cases this
theorem aJ.lz{G' H':Hp}(g:aJ W (withZ Z G) (withZ Z H) G' H')(sg:aF G H)(zc:∀b o,Z.lookup b=some o→∃v,o.data=.cell v)(zn:∀b o,Z.lookup b=some o→H b=none):aJ W G H (bf Z G') (bf Z H') where
 g:=fun b u e=>by
  cases y:Z.lookup b with
  |none=>rw [aC y];exact g.g _ _ (by rw [aj y];exact e)
  |some o=>have:=sg _ _ e;rw [zn b o y] at this;cases this
 h:=fun b u e=>by
  cases y:Z.lookup b with
  |none=>rw [aC y];exact g.h _ _ (by rw [aj y];exact e)
  |some o=>rw [zn b o y] at e;cases e
 sub:=fun b u e=>by
  obtain⟨q,e1⟩:=dD e
  rw [aC q];exact g.sub _ _ e1
 own:=fun a h1 h3 h2=>by
  cases y:Z.lookup a with
  |none=>rw [aC y];exact g.own a (by rw [aj y];exact h1) (by rw [aj y];exact h3) (by rw [aj y];exact h2)
  |some o=>exact d9 y
 tab:=fun t=>kD (g.tab (pf t sg zn)) g.sub (fun b o q=>g.g _ _ (bg q)) zc
theorem vi(sg:aF G H):aF (withZ Z G) (withZ Z H):=fun b u e=>by
 cases y:Z.lookup b with
 |none=>rw [aj y] at e⊢;exact sg _ _ e
 |some o=>rw [bg y] at e⊢;exact e
theorem qY{G3 H3:Hp}(s:aF G3 H3)(zn:∀b o,Z.lookup b=some o→H3 b=none):aF G3 (withZ Z G3):=fun b u e=>by
 cases y:Z.lookup b with
 |none=>rw [aj y];exact e
 |some o=>have:=s _ _ e;rw [zn b o y] at this;cases this
theorem pX(zs:∀b o,Z.lookup b=some o→H b=some (.frz o bK)):withZ Z (bf Z H)=H:=by
 funext b
 cases y:Z.lookup b with
 |none=>rw [aj y,aC y]
 |some o=>rw [bg y,zs b o y]
theorem pW(zs:∀b o,Z.lookup b=some o→H b=none):bf Z (withZ Z H)=H:=by
 funext b
 cases y:Z.lookup b with
 |none=>rw [aC y,aj y]
 |some o=>rw [d9 y,zs b o y]
theorem ze{P:Program}{w:World}{h:Heap}(k:dG P w H h)(zs:∀b o,Z.lookup b=some o→H b=some (.frz o bK)):dG P w (bf Z H) h:=fun b v e=>by
 obtain⟨q,e1⟩:=dD e
 refine(k b v e1).stay (fun c y _ r=>r) (fun c r=>?_) fun c xs r=>?_
 ·cases y:Z.lookup c with
  |none=>rw [aC y];exact r
  |some o=>rw [zs c o y] at r;cases r
 ·cases y:Z.lookup c with
  |none=>rw [aC y];exact r
  |some o=>rw [zs c o y] at r;cases r
theorem uF{P:Program}{w:World}{K:PySem.W.Frag}{mg:Str→Option Value}{base:Heap}{A:Around}{outer:List Env}{s:Shared}(e:gY P w K mg base A outer s H)(zs:∀b o,Z.lookup b=some o→H b=some (.frz o bK)):gY P w K mg base A outer s (bf Z H):=
 ⟨e.frames,e.mod,fun b o q=>⟨(e.bs b o q).1,gz (e.bs b o q).2⟩,e.bsz,e.funs,fun b hb=>gz (e.frf b hb),ze e.hok zs,e.bare⟩
theorem xU{ps:List Str}{scope:Scope}(h:Jy ps scope=true):pB ps (bo scope) scope:=by
 unfold Jy at h;simp only [zza,beq_iff_eq,Bool.not_eq_true',decide_eq_true_eq,List.all_eq_true] at h;obtain⟨⟨⟨⟨⟨⟨h1,h2⟩,h3⟩,h4⟩,h5⟩,h6⟩,h7⟩:=h
 refine⟨h1,h2,h3,h4,h5,h6,h7,fun x hx=>?_⟩
 unfold bo;rw [List.mem_reverse,List.mem_map];exact⟨(x,.free),List.mem_filter.mpr ⟨PySem.mem_of_lookup hx,rfl⟩,rfl⟩
theorem ud{params:Arguments}{ps:List Str}{qual:Str}{body:Expr}{scope:Scope}{cl:List (Str×Addr)}{pm eZ ct:Value}(h:mZ params=some ps)(us:List Value)(hl:us.length=ps.length):bindArgs (PySem.W.kla_fn "<lambda>" qual params body scope cl pm eZ ct) ⟨us,[]⟩=pure (ps.zip us):=by
 unfold mZ at h;split at h
 ·cases h
  match us,hl with
  |[],_=>rfl
 ·cases h
  match us,hl with
  |[u],_=>
   simp [bindArgs,seqItems?,PySem.W.kla_fn]
   rfl
 ·cases h
theorem Cc{params:Arguments}{ps:List Str}{env:Env}(h:mZ params=some ps):defaultsOf params env=([],[]):=by
 unfold mZ at h;split at h
 ·rfl
 ·rfl
 ·cases h
theorem ma:∀{idx:List Nat} {l qs:List PV} {us:List V},eh l idx=.ok qs→ak W G l us→∃vs:List V,ak W G qs vs∧vs.length=idx.length∧∀(j i:Nat),idx[j]?=some i→∃v,us[i]?=some v∧vs[j]?=some v
 |[],l,qs,us,h,r=>by
  unfold eh at h;cases h;exact⟨[],.nil,rfl,fun j i e=>by simp at e⟩
 |i::idx,l,qs,us,h,r=>by
  unfold eh at h;obtain⟨p,hp,h⟩:=Res.bind_ok h
  obtain⟨ps,i6,h⟩:=Res.bind_ok h
  cases h;obtain⟨v,hv,rv⟩:=r.getP (Res.of_ok hp)
  obtain⟨vs,l1,l2,l3⟩:=ma i6 r
  refine⟨v::vs,.cons rv l1,by simp [l2],fun j k e=>?_⟩
  cases j with
  |zero=>simp at e;subst e;exact⟨v,hv,rfl⟩
  |succ j=>simpa using l3 j k (by simpa using e)
theorem iT{l:List PV}(c:Str):∀{idx:List Nat},eh l idx≠.exc c
 |[]=>fun z=>nomatch z
 |i::idx=>fun z=>by
  unfold eh at z;rcases Res.bind_exc z with z|⟨p,_,z⟩
  ·exact Res.of_noexc c z
  ·rcases Res.bind_exc z with z|⟨ps,_,z⟩
   ·exact iT c z
   ·cases z
end
def yK(idx:List Nat):TA:=fun σ H Q=>∃vs:List V,vs.length=idx.length∧(∀(j i:Nat),idx[j]?=some i→∃v,σ[i]?=some (some v)∧vs[j]?=some v)∧Q vs H
theorem pG{a:Expr}{as:List Expr}{xs:List (Option Str)}(h:d6 (a::as) xs=true):∃x np,a=.Name x np∧∃wt,d6 as wt=true:=by
 cases xs with
 |nil=>cases a<;>exact absurd h zzf
 |cons y ys=>
  cases y with
  |none=>cases a<;>exact absurd h zzf
  |some y=>
   cases a with
   |Name x np=>exact⟨x,np,rfl,ys,(Bool.and_eq_true_iff.mp h).2⟩
   |_=>exact absurd h zzf
theorem jW{env:Env}:∀{as:List Expr} {xs:List (Option Str)} {pos:Pos},d6 as xs=true→(backTo pos (starEach as env)).any (·.1)=false
 |[],_,_,_=>rfl
 |a::as,xs,pos,h=>by
  obtain⟨x,np,rfl,wt,h2⟩:=pG h
  show(false||(backTo pos (starEach as env)).any (·.1))=false
  rw [jW h2]
  rfl
theorem qb{X:Cx}(hv:∀(i:Nat) (x:Str),X.N[i]?=some x→Jd X.env.scope x):∀{as:List Expr} {idx:List Nat},d6 as (idx.map fun i=>X.N[i]?)=true→PA X as (yK idx)
 |[],[],_=>L2.PA.imp d7 fun σ H Q h=>by
  obtain⟨vs,h1,_,h3⟩:=h
  cases vs with
  |nil=>exact h3
  |cons _ _=>simp at h1
 |a::as,i::idx,h=>by
  rw [List.map_cons] at h;cases e:X.N[i]? with
  |none=>rw [e] at h;cases a<;>exact absurd h zzf
  |some y=>
   rw [e] at h;cases a<;>first|(exact absurd h zzf)|skip
   rename_i x np;unfold d6 at h;rw [zza,zza] at h;have LR:=beq_iff_eq.mp h.1.1
   subst LR;have Mm:(x==("__debug__":Str))=false∧(x==("__classdict__":Str))=false:=by
    have h2:=h.1.2
    unfold okN at h2;simp only [zza,Bool.not_eq_true'] at h2;exact⟨h2.1.1,h2.1.2⟩
   refine L2.PA.imp (cI (eQ (i:=i) e (hv i x e) Mm.1 Mm.2) (qb hv h.2) rfl) fun σ H Q hq=>?_
   obtain⟨vs,h1,h2,h3⟩:=hq
   cases vs with
   |nil=>simp at h1
   |cons v vs=>
    obtain⟨v',hv1,hv2⟩:=h2 0 i rfl
    simp at hv2;subst hv2;exact⟨v,hv1,vs,by simpa using h1,fun j k ej=>by simpa using h2 (j+1) k (by simpa using ej),h3⟩
 |[],_::_,h=>by cases h
 |a::_,[],h=>by cases a<;>cases h
end Ci
namespace Ci
open PySem L2
section
variable{Γ:Pg}{X:Cx}{W:Wd}{F:aV}{N:List Str}{sc:Scope}{k:Nat}
theorem sA{g:Str}{idx:List Nat}{params:Arguments}{body:Expr}{scope:Scope}(h:yj g idx params body scope=true):∃ps a as np pos,mZ params=some ps∧idx.head?=some ps.length∧body=.Call (.Name g np) (a::as) [] pos∧scope.names.lookup g=some .globalImplicit∧okN g=true∧gC g=false∧d6 (a::as) (idx.tail.map fun i=>(ps++bo scope)[i]?)=true∧pB ps (bo scope) scope:=by
 unfold yj at h;split at h
 ·rename_i ps g' np a as pos e1;simp only [zza,beq_iff_eq,Bool.not_eq_true',decide_eq_true_eq] at h;obtain⟨⟨⟨⟨⟨⟨h0,h1⟩,h2⟩,h3⟩,h4⟩,h5⟩,h6⟩:=h
  subst h1;exact⟨ps,a,as,np,pos,e1,h0,rfl,h2,h3,h4,h5,xU h6⟩
 ·cases h
theorem q9{a:Expr}{as:List Expr}{xs:List (Option Str)}{env:Env}(h:d6 (a::as) xs=true):∃x np,a=.Name x np∧∃wt,d6 as wt=true:=pG h
theorem AE(C:du Γ F W N sc k X){g:Str}{idx:List Nat}{cL as qs:List PV}{f:Addr}{pins:List (Addr×Obj)}{σ:St}{G H:Hp}{s:Shared}{Q:VK}{us:List Value}{vs:List V}
 (I:Inv X pins σ H s) (sg:aF G H) (tb:cD W G H) (cr:nJ W G g idx cL (.ref f)) (l:ak W G as vs) (r:Vals vs us) (hn:idx.head?=some as.length) (hq:eh (as++cL) idx.tail=.ok qs)
 (o:Out X W (F g qs) σ G H fun p=>cY W G H p Q):wpAny (model X.prog X.w) X.A (call (.ref f) us) (EP X pins σ Q) X.xe s:=by
 obtain⟨f',c',oc,cU,t,eW,pm,params,body,scope,qual,cl,Z,ws,e,d⟩:=cr
 cases e;obtain⟨ps,a,as',np,pos,e1,e0,rfl,e2,e3,e4,e5,S⟩:=sA d.lg
 have sD:F g qs≠.bad:=fun z=>by rw [z] at o;exact o
 have hlen:as.length=ps.length:=Option.some.inj (hn.symm.trans e0)
 have Io:∀b o,Z.lookup b=some o→H b=some (.frz o bK):=fun b o q=>sg _ _ (d.zs b o q)
 have NK:withZ Z (bf Z H)=H:=pX Io
 have Cp:q8 Z (bf Z H) (dZ X.stack) s.heap:=⟨fun b o q=>(I.hok b _ (Io b o q)).1,fun b o q=>d9 q,fun b o q hb=>by have:=I.stkFree b hb;rw [Io b o q] at this;cases this⟩
 have rl:ak W (bf Z G) (as++cL) (vs++ws):=(ak.less d.zs as l).append d.rep
 obtain⟨ys,ry,ly,py⟩:=ma hq rl
 have hfs:Γ.fs.contains g=true:=by
  rcases C.any g qs sD with z|z
  ·exact z
  ·rw [e4] at z;cases z
 obtain⟨fa,fd,pn,FO,hm,hk,hb,hal⟩:=(C.fns g hfs).ex
 have Om:aF (bf Z G) (bf Z H):=mB sg
 refine wpAny_call (codeAny_mono (L2.lam_run (E:=fun Cv ao H'=>∃c,F g qs=.exc c∧XE W c G H Cv ao H') (Q:=Q) (Z:=Z) (ws:=ws) (vs:=vs) (t:=fun σ' H1 Q1=>H1=bf Z H∧yK idx.tail σ' H1 fun zs H2=>H2=H1∧zs=ys∧∀u H3,(match F g qs with
  |.ok p=>∃G3,aJ W (bf Z G) (bf Z H) G3 H3∧Rep W G3 p u
  |_=>False)→Q1 u H3) S C.room (uF I.env0 Io) Cp ?zb (I.hok _ _ (sg _ _ d.fo)).1 (I.hok _ _ (sg _ _ d.co)).1 d.cd d.cn (ud e1 us (by rw [←r.length,l.length,hlen])) r (by rw [l.length,hlen]) d.len d.has d.inj d.cells ?cells ?ht ?hq) fun rr s' hr=>?end_)
 case zb=>
  intro b o q;cases y:X.base.get? b with
  |none=>rfl
  |some o'=>have:=(I.bs b o' y).2;rw [Io b o q] at this;cases this
 case cells=>
  intro i y c h1 h2 v h3;obtain⟨u,o',q1,q2,q3⟩:=d.vals i y c h1 h2 v h3
  exact⟨u,q1,o',Cp.at_ c o' q2,q3⟩
 case hq=>
  refine⟨rfl,ys,ly,fun j i ej=>?_,rfl,rfl,fun u H3 h3 zn=>?_⟩
  ·obtain⟨v,h1,h2⟩:=py j i ej
   refine⟨v,?_,h2⟩;rw [←List.map_append,List.getElem?_map,h1]
   rfl
  ·cases z:F g qs with
   |ok p=>
    rw [z] at h3 o;obtain⟨G3,g3,r3⟩:=h3
    exact o u _ _ (g3.wz sg d.zs d.zc zn) (Rep.same (qY g3.sub zn) p r3)
   |exc c=>rw [z] at h3;exact h3.elim
   |bad=>exact absurd z sD
 case ht=>
  intro uj s1 σ' H1 Q1 I1 h1;obtain⟨rfl,h1⟩:=h1
  obtain⟨x0,np0,rfl,wt,hrest⟩:=q9 (env:=X.env) e5
  refine wpAny_Call_Name_kw (fZ (X:=CM X.prog X.w X.K X.mg X.base (ps++bo scope) qual scope f (.ref c') cl X.A X.stack s (bf Z H) _) I1 e2 hm ?_ (dj e3).1);refine PySem.W.callWith_K (h₀:=X.base) I.ok.mod.kin hk (bR (qb (X:=CM X.prog X.w X.K X.mg X.base (ps++bo scope) qual scope f (.ref c') cl X.A X.stack s (bf Z H) _) (fun i x hx=>?_) e5 pos uj s1 σ' _ _ I1 h1) fun us2 s2 ⟨vs2,H2,I2,r2,q2⟩=>⟨I2.kIn,?_⟩) rfl (jW hrest)
  ·rcases List.mem_append.mp (List.mem_of_getElem? hx) with z|z
   ·exact .inl (S.par x z)
   ·exact .inr (.inr (S.fre x z))
  ·obtain⟨rfl,rfl,q2⟩:=q2
   refine kE (X:=CM X.prog X.w X.K X.mg X.base (ps++bo scope) qual scope f (.ref c') cl X.A X.stack s (bf Z H) _) (q:=none) (as:=qs) (G:=bf Z G) (C.room.deeper _) FO hb (fun z=>by rw [ry.length];exact hal qs z) I2 Om (kD tb sg d.zs d.zc) ry r2 ?_;cases z:F g qs with
   |ok p=>
    rw [z] at q2;exact fun v G' H' g' rp=>q2 v H' ⟨G',g',rp⟩
   |exc c=>
    intro pins3 G3 H3 s3 e s' I3 g3 x3;refine Hl pins3 σ' H3 s3 e s' I3 (BX.imp x3 fun Cv ao H' y zn=>?_);obtain⟨C4,a4,G4,y1,y2,y3,y4,y5⟩:=y
    exact⟨c,rfl,C4,a4,_,y1,y2,y3,y4,(g3.trans y5).wz sg d.zs d.zc zn⟩
   |bad=>exact absurd z sD
 case end_=>
  rw [NK] at hr;cases rr with
  |error e=>
   have hr:dy X.prog X.w X.stack H s (fun Cv ao H'=>∃c,F g qs=.exc c∧XE W c G H Cv ao H') e s':=hr
   cases z:F g qs with
   |ok q=>
    obtain⟨a,C',t,vs,H',B,rfl,Fl⟩:=hr
    obtain⟨c,e1,_⟩:=Fl.ends
    rw [z] at e1;cases e1
   |exc c=>
    rw [z] at o;refine o pins G H s e s' I (.refl sg) (BX.imp hr fun C1 a H' y=>?_);obtain⟨c',e1,y⟩:=y
    rw [z] at e1;cases e1;exact y
   |bad=>exact absurd z sD
  |ok fl=>
   cases fl with
   |ret u=>exact I.after hr
   |next=>exact False.elim hr
   |brk=>exact False.elim hr
   |cont=>exact False.elim hr
end
end Ci
namespace Ci
open PySem L2
section
variable{Γ:Pg}{X:Cx}{W:Wd}{F:aV}{N:List Str}{sc:Scope}{k:Nat}
theorem yZ(C:du Γ F W N sc k X){i:Nat}{x:Str}{e:E}{es:Es}{p:Expr}{ps:List Expr}{np pos:Pos}(h:(N[i]?==some x&&dR sc x&&okN x)=true)(yG:gb (.cons e es)=true)(ha:GA X W F (.cons e es) (p::ps))
 (dm:starEach (p::ps) X.env=(false,eval p X.env)::starEach ps X.env) (hpl:(backTo pos (starEach ps X.env)).any (·.1)=false):GE X W F (.callv i (.cons e es)) (.Call (.Name x np) (p::ps) [] pos):=by
 simp only [zza,beq_iff_eq] at h;obtain⟨h1,h2,h3⟩:=dj h.2
 intro pins s σ H Q I hq;obtain⟨H0,G,env,sr,o⟩:=hq
 rw [az] at o;cases e1:env[i]? with
 |none=>rw [e1] at o;exact o.elim
 |some sl=>
  cases sl with
  |no=>rw [e1] at o;exact o.elim
  |val _=>rw [e1] at o;exact o.elim
  |own _=>rw [e1] at o;exact o.elim
  |fn g idx cL=>
   rw [e1] at o;obtain⟨o2,hs,v,rfl,cr⟩:=sr.slot i _ e1
   have Oo:=cr
   obtain⟨f,c',oc,cU,t,eW,pm,params,body,scope,qual,cl,Z,ws,e2,d⟩:=Oo
   subst e2;refine wpAny_Call_Name_kw (wpAny_mono (eQ (i:=i) (by rw [C.hN];exact h.1.1) (mU C h.1.2) h1 h2 pins s σ H (fun v' H1=>v'=.ref f∧H1=H) I ⟨_,hs,rfl,rfl⟩) (fun u s1 hu=>?_) fun _ _ y=>y)
   obtain⟨v',H1,I1,ru,rfl,rfl⟩:=hu
   cases ru;refine PySem.W.callWith_F ⟨_,_,_,_,(I1.hok _ _ (sr.sub _ _ d.fo)).1⟩ (bR (ha pos pins s1 σ H1 (fun vs H2=>∃G2 as qs,aF G2 H2∧cD W G2 H2∧ak W G2 as vs∧nJ W G2 g idx cL (.ref f)∧G2 f=some (.frz (PySem.W.kla_obj "<lambda>" qual params body scope cl pm c' eW) bK)∧idx.head?=some as.length∧eh (as++cL) idx.tail=.ok qs∧Out X W (F g qs) σ G2 H2 fun p=>cY W G2 H2 p Q) I1 ?_) fun us s2 ⟨vs,H2,I2,r,q⟩=>?_) dm hpl
   ·refine args sr o fun as vs G1 H2 g1 t1 bL o1=>?_
    split at o1
    ·rename_i hn;cases hq:eh (as++cL) idx.tail with
     |ok qs=>
      rw [hq] at o1;have pM:Out X W (F g qs) σ G1 H2 _:=o1
      exact⟨G1,as,qs,bL.sub,bL.tab,t1.rep yG,cr.same g1.g,g1.g _ _ d.fo,hn,hq,pM.imp fun p hp v G' H' g' rp=>hp v G' H' (g1.trans g') (.of rp)⟩
     |exc c=>exact absurd hq (iT c)
     |bad=>rw [hq] at o1;exact o1.elim
    ·exact o1.elim
   ·obtain⟨G2,as,qs,sg,tb,l,cr2,fo2,hn,hqs,o2⟩:=q
    exact⟨⟨_,_,_,_,(I2.hok _ _ (sg _ _ fo2)).1⟩,AE C I2 sg tb cr2 l r hn hqs o2⟩
def nU(X:Cx)(W:Wd)(params:Arguments)(body:Expr)(scope:Scope)(cl:List (Str×Addr))(G1 H1 G2 H2:Hp)(f:Addr):Prop:=aJ W G1 H1 G2 H2∧∃c' oc cU t eW pm,G2 f=some (.frz (PySem.W.kla_obj "<lambda>" (X.env.qual++"<lambda>") params body scope cl pm c' eW) bK)∧G2 c'=some (.frz oc bK)∧oc.data=.fields cU∧cU[1]?=some (.str (X.env.qual++"<lambda>") t)
theorem yQ(C:du Γ F W N sc k X)(hl:Γ.hl=true){params:Arguments}{ps:List Str}{body:Expr}{scope:Scope}{pos:Pos}{cl:List (Str×Addr)}(hp:mZ params=some ps)(CU:closureFor scope X.env=pure cl):
 PE X (.Lambda params body scope pos) (fun σ H Q=>∃G,aF G H∧cD W G H∧∀f G2 H2,nU X W params body scope cl G H G2 H2 f→Q (.ref f) H2):=by
 intro pins s σ H Q I h;obtain⟨G,sg,tb,q⟩:=h
 obtain⟨c,P,tM,CH,hts,huq⟩:=C.tb hl
 obtain⟨nG,jv,hP,tr,al⟩:=tb P _ hts
 refine L2.lam_make (R:=fun c' oc=>G c'=some (.frz oc bK)) I hP tr tM CH (C.bm hl) CU (Cc hp) (fun cv e=>?_) fun f c' oc cU t eW oJ h' tk hf hc zF Nk Ny hd hv NH NV more I'=>?_
 ·obtain⟨c',oc,cU,t,e1,e2,e3,e4⟩:=al pos cv e
  exact⟨c',oc,cU,t,e1,sg _ _ e2,e2,e3,e4⟩
 ·have Ot:G f=none:=sg.free hf
  have Ow:G c'=none∨G c'=some (.frz oc bK):=by
   rcases hc with z|z
   ·exact .inl (sg.free z)
   ·exact .inr z.2
  have fo:∀fo,fh H P oJ c' oc f fo f=some (.frz fo bK):=fun fo=>by unfold fh;rw [av]
  have sG:∀fo,aF G (upd (upd G c' (.frz oc bK)) f (.frz fo bK)):=fun fo b u e=>by
   have yR:b≠f:=fun z=>by rw [z,Ot] at e;cases e
   rw [ag yR]
   by_cases hb:b=c'
   ·subst hb;rw [av];rcases Ow with z|z
    ·rw [z] at e;cases e
    ·rw [z] at e;exact e
   ·rw [ag hb];exact e
  have KP:∀fo a,H a≠none→(∀vs,H a≠some (.tup vs))→G a=none→(upd (upd G c' (.frz oc bK)) f (.frz fo bK)) a=none:=fun fo a h1 _ h2=>by
   have Nl:a≠f:=fun z=>h1 (by rw [z];exact hf)
   rw [ag Nl]
   by_cases ha:a=c'
   ·subst ha;rcases hc with z|z
    ·exact absurd z h1
    ·rw [z.2] at h2;cases h2
   ·rw [ag ha];exact h2
  refine⟨.ref f,_,I',rfl,q f (upd (upd G c' (.frz oc bK)) f (.frz _ bK)) _ ⟨⟨sG _,fun b u e=>?_,fun b u e=>?_,KP _,fun _ P' q' m=>?_⟩,c',oc,cU,t,eW,(X.mg "__name__").getD .none,av,by rw [ag zF,av],hd,hv⟩⟩
  ·have yR:b≠f:=fun z=>by rw [z,hf] at e;cases e
   by_cases GG:b=P
   ·subst GG;rw [hP] at e;cases e;obtain⟨m,rfl⟩:=more
    exact .inr ⟨jv,m,rfl,by unfold fh;rw [ag (Ne.symm Nk),ag (Ne.symm Ny),av]⟩
   ·have e2:fh H P oJ c' oc f (PySem.W.kla_obj "<lambda>" (X.env.qual++"<lambda>") params body scope cl ((X.mg "__name__").getD .none) c' eW) b=H b:=by
     unfold fh;rw [ag yR]
     by_cases hb:b=c'
     ·subst hb;rw [av];rcases hc with z|z
      ·rw [z] at e;cases e
      ·rw [z.1]
     ·rw [ag hb,ag GG]
    rw [e2];exact gN.refl H b u e
  ·by_cases yR:b=f
   ·subst yR;rw [av] at e;rw [fo];exact e
   ·rw [ag yR] at e;unfold fh;rw [ag yR]
    by_cases hb:b=c'
    ·subst hb;rw [av] at e⊢;exact e
    ·rw [ag hb] at e⊢;have GG:b≠P:=fun z=>by rw [z,nG] at e;cases e
     rw [ag GG];exact sg _ _ e
  ·obtain⟨n1,qs,zE,tr1,al1⟩:=tb P' q' m
   have Ku:P'≠f:=fun z=>by rw [z,hf] at zE;cases zE
   have gD:P'≠c':=fun z=>by
    rcases hc with y|y
    ·rw [z,y] at zE;cases zE
    ·rw [z,y.1] at zE;cases zE
   refine⟨by rw [ag Ku,ag gD];exact n1,?_⟩
   by_cases hPP:P'=P
   ·subst hPP;rw [hP] at zE;cases zE;refine⟨oJ,by unfold fh;rw [ag Ku,ag gD,av],NH,fun pos' cv y=>?_⟩
    rcases NV pos' cv y with y|y
    ·obtain⟨c2,oc2,cvs2,t2,e1,e2,e3,e4⟩:=al1 pos' cv y
     exact⟨c2,oc2,cvs2,t2,e1,sG _ _ _ e2,e3,e4⟩
    ·exact⟨c',oc,cU,t,y,by rw [ag zF,av],hd,by rw [huq q' m];exact hv⟩
   ·refine⟨qs,by unfold fh;rw [ag Ku,ag gD,ag hPP];exact zE,tr1,fun pos' cv y=>?_⟩
    obtain⟨c2,oc2,cvs2,t2,e1,e2,e3,e4⟩:=al1 pos' cv y
    exact⟨c2,oc2,cvs2,t2,e1,sG _ _ _ e2,e3,e4⟩
end
end Ci
namespace Ci
open PySem L2
section
variable{Γ:Pg}{X:Cx}{W:Wd}{F:aV}{N:List Str}{sc:Scope}{k:Nat}
structure yP(N:List Str)(sc:Scope)(g:Str)(idx ba:List Nat)(params:Arguments)(body:Expr)(scope:Scope):Prop where
 lb:yj g idx params body scope=true
 cn:ba.map (fun i=>N[i]?)=(bo scope).map some
 cc:∀y∈bo scope,sc.names.lookup y=some .cell
noncomputable def Ja(X:Cx)(W:Wd)(F:aV)(N:List Str)(sc:Scope)(g:Str)(idx ba:List Nat)(es:Es):TA:=fun σ H Q=>∃H0 G env,SR W H0 env σ G H∧Out X W (au F es env) σ G H fun as=>∀vs G1 H1,aJ W G H G1 H1→ak W G1 as vs→∀params body scope f G2 H2,yP N sc g idx ba params body scope→nU X W params body scope (bJ X.env (bo scope)) G1 H1 G2 H2 f→Q (vs++[.ref f]) H2
theorem xW(C:du Γ F W N sc k X)(ok:X.Ok){g:Str}{idx ba:List Nat}{params:Arguments}{body:Expr}{scope:Scope}(a:yP N sc g idx ba params body scope):closureFor scope X.env=pure (bJ X.env (bo scope)):=by
 refine gE fun y hy hf=>ok.has y.1 (.inl ?_)
 show X.env.scope.names.lookup y.1=_
 rw [C.hsc];refine a.cc y.1 ?_;unfold bo;rw [List.mem_reverse,List.mem_map];exact⟨y,List.mem_filter.mpr ⟨hy,by rw [hf];rfl⟩,rfl⟩
theorem BZ(C:du Γ F W N sc k X)(hl:Γ.hl=true){g:Str}{idx ba:List Nat}{params:Arguments}{body:Expr}{scope:Scope}{pos:Pos}(a:yP N sc g idx ba params body scope):PA X [.Lambda params body scope pos] (Ja X W F N sc g idx ba .nil):=by
 obtain⟨ps,_,_,_,_,e1,_⟩:=sA a.lb
 intro pos' pins s σ H Q I h;refine cI (yQ C hl e1 (xW C I.ok a)) d7 rfl pos' pins s σ H Q I ?_;obtain⟨H0,G,env,sr,o⟩:=h
 rw [au] at o;refine⟨G,sr.sub,sr.tab,fun f G2 H2 m=>?_⟩
 exact o [] G H (.refl sr.sub) .nil params body scope f G2 H2 a m
theorem yA{g:Str}{idx ba:List Nat}{e:E}{es:Es}{p:Expr}{ps:List Expr}(yG:gb (.cons e es)=true)(he:GE X W F e p)(hs:PA X ps (Ja X W F N sc g idx ba es))(dm:starEach (p::ps) X.env=(false,eval p X.env)::starEach ps X.env):PA X (p::ps) (Ja X W F N sc g idx ba (.cons e es)):=
 L2.PA.imp (cI he hs dm) fun σ H Q h=>by
  obtain⟨H0,G,env,sr,o⟩:=h
  rw [au] at o;unfold gb at yG;rw [zza] at yG;refine one sr o fun q v G1 H1 g1 t1 bL o1=>⟨H0,G1,env,bL,o1.bind.imp fun as ha vs G2 H2 g2 l=>?_⟩
  intro params body scope f G3 H3 la lm;have:=ha (v::vs) G2 H2 (g1.trans g2) (.cons (Rep.same g2.g q (t1.rep yG.1)) l) params body scope f G3 H3 la lm
  simpa using this
theorem lookup_all{Z:List (Addr×Obj)}{h:Heap}(ha:∀q∈Z,h.get? q.1=some q.2):∀{c:Addr} {o:Obj},(c,o)∈Z→Z.lookup c=some o:=by
 induction Z with
 |nil=>intro c o m;cases m
 |cons q Z ih=>
  intro c o m;obtain⟨c1,o1⟩:=q
  rw [List.lookup_cons];cases e:c==c1 with
  |true=>
   have e2:=beq_iff_eq.mp e
   subst e2;have h1:=ha (c,o1) List.mem_cons_self
   have h2:h.get? c=some o:=ha (c,o) m
   rw [h1] at h2;exact h2
  |false=>
   rcases List.mem_cons.mp m with z|z
   ·cases z;simp at e
   ·exact ih (fun q hq=>ha q (List.mem_cons_of_mem _ hq)) z
theorem p6{H0 G H:Hp}{env:Sl}{σ:St}(sr:SR W H0 env σ G H):∀{ba:List Nat} {cs:List PV},iI env ba=.ok cs→∃ws:List V,ak W G cs ws∧ws.length=ba.length∧∀(j:Nat) (i:Nat),ba[j]?=some i→∃v,ws[j]?=some v∧σ[i]?=some (some v)
 |[],cs,h=>by
  unfold iI at h;cases h;exact⟨[],.nil,rfl,fun j i e=>by simp at e⟩
 |i::ba,cs,h=>by
  unfold iI at h;obtain⟨p,hp,h⟩:=Res.bind_ok h
  obtain⟨ps,i6,h⟩:=Res.bind_ok h
  cases h;have hs:env[i]?=some (.val p):=by
   cases e:env[i]? with
   |none=>rw [e] at hp;cases hp
   |some s=>rw [e] at hp;cases s<;>cases hp;rfl
  obtain⟨o,h1,v,rfl,rv⟩:=sr.slot i _ hs
  obtain⟨ws,l1,l2,l3⟩:=p6 sr i6
  refine⟨v::ws,.cons rv l1,by simp [l2],fun j k e=>?_⟩
  cases j with
  |zero=>simp at e;subst e;exact⟨v,rfl,h1⟩
  |succ j=>simpa using l3 j k (by simpa using e)
theorem ju{env:Sl}(c:Str):∀{ba:List Nat},iI env ba≠.exc c
 |[]=>fun z=>nomatch z
 |i::ba=>fun z=>by
  unfold iI at z;rcases Res.bind_exc z with z|⟨p,_,z⟩
  ·cases e:env[i]? with
   |none=>rw [e] at z;cases z
   |some s=>rw [e] at z;cases s<;>cases z
  ·rcases Res.bind_exc z with z|⟨ps,_,z⟩
   ·exact ju c z
   ·cases z
theorem vo(C:du Γ F W N sc k X)(hl:Γ.hl=true){q:Hs}{ba:List Nat}{fa:Addr}{fd:FuncData}{pn:List Str}(FO:fD X.prog X.w X.K X.mg X.base (dy X.prog X.w) k fa fd pn (wu W F q.f pn.length (some (q.g,q.idx))))(hb:Binds X.K fd pn []){pins:List (Addr×Obj)}{σ:St}{H0 G H:Hp}{env:Sl}{s:Shared}{Q:VK}{us:List Value}{vs:List V}{as cs:List PV}{params:Arguments}{body:Expr}{scope:Scope}{f c':Addr}{oc:Obj}{cU:Array Value}{t:Tok}{eW pm:Value}
 (I:Inv X pins σ H s) (sr:SR W H0 env σ G H) (a:yP N sc q.g q.idx ba params body scope) (JZ:iI env ba=.ok cs) (l:ak W G as vs) (fo:G f=some (.frz (PySem.W.kla_obj "<lambda>" (X.env.qual++"<lambda>") params body scope (bJ X.env (bo scope)) pm c' eW) bK)) (co:G c'=some (.frz oc bK)) (cd:oc.data=.fields cU) (cn:cU[1]?=some (.str (X.env.qual++"<lambda>") t))
 (hlen:(vs++[V.ref f]).length=pn.length) (r:Vals (vs++[.ref f]) us) (o:Out X W (F q.f (as++cs)) σ G H fun p=>cY W G H p Q):wpAny (model X.prog X.w) X.A (call (.ref fa) us) (EP X pins σ Q) X.xe s:=by
 have sD:F q.f (as++cs)≠.bad:=fun z=>by rw [z] at o;exact o
 obtain⟨ws,rws,lws,pws⟩:=p6 sr JZ
 have dC:∀y∈bo scope,∃c,X.env.cells.lookup y=some c:=fun y hy=>I.ok.has y (.inl (by show X.env.scope.names.lookup y=_;rw [C.hsc];exact a.cc y hy))
 have call:((bo scope).all fun y=>(X.env.cells.lookup y).isSome)=true:=List.all_eq_true.mpr fun y hy=>by obtain⟨c,e⟩:=dC y hy;rw [e];rfl
 let Z:List (Addr×Obj):=(bo scope).filterMap fun y=>(X.env.cells.lookup y).bind fun c=>(s.heap.get? c).map fun o=>(c,o)
 have IW:∀q∈Z,∃y,y∈bo scope∧X.env.cells.lookup y=some q.1∧s.heap.get? q.1=some q.2:=fun q hq=>by
  obtain⟨y,hy,e⟩:=List.mem_filterMap.mp hq
  obtain⟨c,hc,e⟩:=Option.bind_eq_some_iff.mp e
  obtain⟨o,ho,rfl⟩:=Option.map_eq_some_iff.mp e
  exact⟨y,hy,hc,ho⟩
 have Lu:∀q∈Z,s.heap.get? q.1=some q.2:=fun q hq=>let⟨_,_,_,h⟩:=IW q hq;h
 have L4:∀y c o,y∈bo scope→X.env.cells.lookup y=some c→s.heap.get? c=some o→Z.lookup c=some o:=fun y c o hy hc ho=>lookup_all Lu (List.mem_filterMap.mpr ⟨y,hy,by rw [hc];show(s.heap.get? c).map _=_;rw [ho];rfl⟩)
 have Ho:∀b o,Z.lookup b=some o→∃y,y∈bo scope∧X.env.cells.lookup y=some b∧s.heap.get? b=some o:=fun b o e=>by
  obtain⟨y,h1,h2,h3⟩:=IW (b,o) (PySem.W.mem_of_lookupK e)
  exact⟨y,h1,h2,h3⟩
 have zc:∀b o,Z.lookup b=some o→∃v,o.data=.cell v:=fun b o e=>by
  obtain⟨y,_,h2,h3⟩:=Ho b o e
  obtain⟨v,o',h4,h5⟩:=I.cell y b h2
  rw [h3] at h4;cases h4;exact⟨v,h5⟩
 have HY:∀b o,Z.lookup b=some o→H b=none:=fun b o e=>by obtain⟨y,_,h2,_⟩:=Ho b o e;exact I.freeC y b h2
 have MU:∀b o,Z.lookup b=some o→G b=none:=fun b o e=>sr.sub.free (HY b o e)
 have qc:∀b u,G b=some u→Z.lookup b=none:=fun b u e=>by
  cases y:Z.lookup b with
  |none=>rfl
  |some o=>rw [MU b o y] at e;cases e
 have IH:∀x c,(bJ X.env (bo scope)).lookup x=some c→X.env.cells.lookup x=some c:=dM call
 have J8:∀x c,(bJ X.env (bo scope)).lookup x=some c→x∈bo scope:=fun x c e=>by
  have:=PySem.mem_of_lookup e
  unfold bJ at this;obtain⟨y,hy,e2⟩:=List.mem_map.mp this
  cases e2;exact hy
 have MG:∀b o,Z.lookup b=some o→X.s₀.heap.objs.size≤b:=fun b o e=>by
  obtain⟨y,_,h2,_⟩:=Ho b o e
  exact I.ok.cab y b (C.fl hl y) h2
 have Cp:q8 Z H (dZ X.stack) s.heap:=⟨fun b o e=>let⟨_,_,_,h⟩:=Ho b o e;h,HY,fun b o e LD=>by
  obtain⟨y,_,h2,h3⟩:=Ho b o e
  rcases List.mem_cons.mp (I.stkSub b LD) with z|z
  ·exact I.cne y b h2 z
  ·obtain⟨_,o',h4,_⟩:=I.ok.funs.mem z
   exact absurd (Heap.lt_size h4) (Nat.not_lt.mpr (MG b o e))⟩
 have zb:∀b o,Z.lookup b=some o→X.base.get? b=none:=fun b o e=>by
  cases y:X.base.get? b with
  |none=>rfl
  |some o'=>exact absurd (Heap.lt_size (I.ok.bs b o' y).1) (Nat.not_lt.mpr (MG b o e))
 have N5:(bo scope).length=ba.length:=by have:=congrArg List.length a.cn;simpa using this.symm
 have cr:nJ W (withZ Z G) q.g q.idx cs (.ref f):=by
  refine⟨f,c',oc,cU,t,eW,pm,params,body,scope,_,bJ X.env (bo scope),Z,ws,rfl,⟨a.lb,by rw [aj (qc f _ fo)];exact fo,by rw [aj (qc c' _ co)];exact co,cd,cn,qc f _ fo,qc c' _ co,fun x y c h1 h2=>I.ok.inj x y c (IH x c h1) (IH y c h2),fun y hy=>gR hy,fun x c h=>?_,fun b o e=>bg e,zc,fun i y c h1 h2 v h3=>?_,by rw [lws,N5],by rw [pW MU];exact rws⟩⟩
  ·obtain⟨v,o,h1,h2⟩:=I.cell x c (IH x c h)
   exact⟨o,v,L4 x c o (J8 x c h) (IH x c h) h1,h2⟩
  ·have hi:i<ba.length:=by rw [←lws];exact(List.getElem?_eq_some_iff.mp h3).1
   obtain⟨v',q1,q2⟩:=pws i ba[i] (zzg hi)
   rw [h3] at q1;cases q1;have N2:X.N[ba[i]]?=some y:=by
    rw [C.hN];have:=congrArg (fun l=>l[i]?) a.cn
    simp only [List.getElem?_map,h1,zzg hi,Option.map_some] at this;exact Option.some.inj this
   obtain⟨m,_,hloc⟩:=I.loc
   obtain⟨u,ru,lk⟩:=hloc ba[i] y v N2 q2 (.inr (.inl (by rw [C.hsc];exact a.cc y (List.mem_of_getElem? h1))))
   have L0:=IH y c h2
   rcases lk with⟨z,_⟩|⟨_,c2,hc2,o,ho,hd⟩
   ·have z2:X.env.scope.names.lookup y=some .local:=z
    rw [C.hsc,a.cc y (List.mem_of_getElem? h1)] at z2;cases z2
   ·rw [L0] at hc2;cases hc2;exact⟨u,o,ru,L4 y c o (List.mem_of_getElem? h1) L0 ho,hd⟩
 have MD:us.length=pn.length:=by rw [←r.length];exact hlen
 have lB:=hb s us I.kIn (by rw [List.append_nil];exact MD)
 rw [List.append_nil] at lB;have O1:ak W (withZ Z G) as vs:=ak.same (fun b u e=>by rw [aj (qc b u e)];exact e) as l
 have N4:∀G' H',aJ W (withZ Z G) (withZ Z H) G' H'→∀b o,Z.lookup b=some o→G' b=some (.frz o bK):=fun G' H' g b o e=>g.g _ _ (bg e)
 refine wpAny_call (codeAny_mono (FO.run X.A X.stack s (withZ Z H) ⟨us,[]⟩ us _ (fun v H'=>Q v (bf Z H')) (fun Cv ao H'=>∃c,F q.f (as++cs)=.exc c∧XE W c G H Cv ao (bf Z H')) C.rm (I.env0.withZ Cp zb) lB r ⟨hlen,withZ Z G,as++cs,vi sr.sub,pf sr.tab sr.sub HY,⟨as,cs,vs,.ref f,rfl,rfl,O1,cr⟩,?_⟩) fun rr s' hr=>?_)
 ·cases z:F q.f (as++cs) with
  |ok p=>
   rw [z] at o;exact fun v G' H' g' rp=>o v _ _ (g'.lz sr.sub zc HY) (Rep.less (N4 G' H' g') p rp)
  |exc c=>
   intro Cv ao H' y;obtain⟨C4,a4,G4,y1,y2,y3,y4,y5⟩:=y
   exact⟨c,rfl,C4,a4,_,y1,y2,y3,y4,y5.lz sr.sub zc HY⟩
  |bad=>exact absurd z sD
 ·cases rr with
  |error e=>
   have hr:dy X.prog X.w X.stack H s (fun Cv ao H'=>∃c,F q.f (as++cs)=.exc c∧XE W c G H Cv ao H') e s':=dy.less Cp hr
   cases z:F q.f (as++cs) with
   |ok q=>
    obtain⟨a,C',t,vs,H',B,rfl,Fl⟩:=hr
    obtain⟨c,e1,_⟩:=Fl.ends
    rw [z] at e1;cases e1
   |exc c=>
    rw [z] at o;refine o pins G H s e s' I (.refl sr.sub) (BX.imp hr fun C1 a H' y=>?_);obtain⟨c',e1,y⟩:=y
    rw [z] at e1;cases e1;exact y
   |bad=>exact absurd z sD
  |ok fl=>
   cases fl with
   |ret u=>exact I.after (CE.less Cp hr)
   |next=>exact False.elim hr
   |brk=>exact False.elim hr
   |cont=>exact False.elim hr
theorem yU(C:du Γ F W N sc k X)(hl:Γ.hl=true){q:Hs}(hq:q∈Γ.hs){ba:List Nat}{es:Es}{p:Expr}{ps:List Expr}{np pos:Pos}(hg:iM sc q.h=true)(ho:okN q.h=true)(hn:q.np=fR es+1)(ha:PA X (p::ps) (Ja X W F N sc q.g q.idx ba es))
 (dm:starEach (p::ps) X.env=(false,eval p X.env)::starEach ps X.env) (hpl:(backTo pos (starEach ps X.env)).any (·.1)=false):GE X W F (.callL q.f es q.g q.idx ba) (.Call (.Name q.h np) (p::ps) [] pos):=by
 intro pins s σ H Q I h;obtain⟨H0,G,env,sr,o⟩:=h
 rw [az] at o;obtain⟨fa,fd,pn,FO,hm,hk,hb,hpn⟩:=(C.hfs q hq).ex
 refine wpAny_Call_Name_kw (fZ I (fy C hg) hm ?_ (dj ho).1);refine PySem.W.callWith_K (h₀:=X.base) I.ok.mod.kin hk (bR (ha pos pins s σ H (fun vs H2=>∃G2 as cs sN params body scope f c' oc cU t eW pm,vs=sN++[.ref f]∧as.length=fR es∧SR W H0 env σ G2 H2∧yP N sc q.g q.idx ba params body scope∧iI env ba=.ok cs∧ak W G2 as sN∧G2 f=some (.frz (PySem.W.kla_obj "<lambda>" (X.env.qual++"<lambda>") params body scope (bJ X.env (bo scope)) pm c' eW) bK)∧G2 c'=some (.frz oc bK)∧oc.data=.fields cU∧cU[1]?=some (.str (X.env.qual++"<lambda>") t)∧Out X W (F q.f (as++cs)) σ G2 H2 fun p=>cY W G2 H2 p Q) I ?_) fun us s1 ⟨vs,H1,I1,r,y⟩=>⟨I1.kIn,?_⟩) dm hpl
 ·refine⟨H0,G,env,sr,?_⟩;cases e1:au F es env with
  |bad=>rw [e1] at o;exact o
  |exc c=>rw [e1] at o;exact o
  |ok as=>
   rw [e1] at o;have o:Out X W ((iI env ba).bind fun cs=>F q.f (as++cs)) σ G H _:=o
   cases e2:iI env ba with
   |bad=>rw [e2] at o;exact o.elim
   |exc c=>exact absurd e2 (ju c)
   |ok cs=>
    rw [e2] at o;have o:Out X W (F q.f (as++cs)) σ G H _:=o
    intro vs G1 H1 g1 l params body scope f G2 H2 la lm;obtain⟨g2,c',oc,cU,t,eW,pm,m1,m2,m3,m4⟩:=lm
    exact⟨G2,as,cs,vs,params,body,scope,f,c',oc,cU,t,eW,pm,rfl,hJ e1,(sr.grow g1).grow g2,la,rfl,ak.same g2.g as l,m1,m2,m3,m4,(o.grow (g1.trans g2)).imp fun p hp v G' H' g' rp=>hp v G' H' ((g1.trans g2).trans g') (.of rp)⟩
 ·obtain⟨G2,as,cs,sN,params,body,scope,f,c',oc,cU,t,eW,pm,rfl,hal,eO,la,hcs,l,m1,m2,m3,m4,o2⟩:=y
  exact vo C hl FO hb I1 eO la hcs l m1 m2 m3 m4 (by rw [List.length_append,l.length,hal,hpn,hn];rfl) r o2
end
end Ci
namespace L2
open PySem PySem.Spec PyProof.Rows
section
variable{X:Cx}{pins:List (Addr×Obj)}{σ:St}{H:Hp}{s:Shared}{h':Heap}{ch:List Addr}
end
section
variable{X:Cx}{elts:List Expr}{x1:Nat}{jx:Pos}
end
end L2
namespace L2
open PySem PySem.Spec PyProof.Rows
section
variable{prog:Program}{w:World}{A:Around}{E:Value→Shared→Prop}{s:Shared}
end
section
variable{X:Cx}{e:Expr}{te:TE}{p1 p2 pos Nt:Pos}
end
end L2
namespace Ci
open PySem L2
section
variable{Γ:Pg}{X:Cx}{W:Wd}{F:aV}{N:List Str}{sc:Scope}{k:Nat}
theorem vV{G:Hp}{p:PV}{v:V}(h:Rep W G p v):∀{ps:List PV} {vs:List V},ak W G ps vs→ak W G (ps++[p]) (vs++[v]):=by
 intro ps
 induction ps with
 |nil=>
  intro vs t;have:=t.length
  cases vs with
  |nil=>exact .cons h .nil
  |cons _ _=>cases this
 |cons q ps ih=>
  intro vs t;obtain⟨u,r,rfl,h1,t⟩:=t.uncons
  exact .cons h1 (ih t)
theorem xn{G:Hp}:∀{ps:List PV} {vs:List V},ak W G ps vs→ak W G ps.reverse vs.reverse:=by
 intro ps
 induction ps with
 |nil=>
  intro vs t;have:=t.length
  cases vs with
  |nil=>exact .nil
  |cons _ _=>cases this
 |cons q ps ih=>
  intro vs t;obtain⟨u,r,rfl,h1,t⟩:=t.uncons
  rw [List.reverse_cons,List.reverse_cons];exact vV h1 (ih t)
theorem E8(C:du Γ F W N sc k X){a:E}{pa st:Expr}{p2 pos:Pos}(ha:GE X W F a pa)(hs:GE X W F (.neg (.cst (.int 1))) st):GE X W F (.rev a) (.Subscript pa (.Slice none none (some st) p2) pos):=
 (DV (Cy.or Fs Dx) ha hs).imp fun σ H Q h=>by
  obtain⟨H0,G,env,sr,o⟩:=h
  rw [az] at o;refine one sr o fun p v G1 H1 g t bL o1=>⟨H0,G1,env,bL,?_⟩
  have e:az F (.neg (.cst (.int 1))) env=.ok (.int (-1)):=by rw [az,az];rfl
  rw [e];intro v2 G2 H2 g2 t2;refine⟨t2.top.int,?_⟩;have t3:=t.grow g2
  cases p with
  |str z=>
   by_cases hl:z.length≤dF
   ·have o2:Out X W (if z.length≤dF then Res.ok (PV.str (eT z)) else .bad) σ G1 H1 _:=o1
    rw [if_pos hl] at o2;exact .inr ⟨z,t3.top.str,jy hl,o2 _ G2 H2 (g.trans g2) (.of .s)⟩
   ·have o2:Out X W (if z.length≤dF then Res.ok (PV.str (eT z)) else .bad) σ G1 H1 _:=o1
    rw [if_neg hl] at o2;exact o2.elim
  |tup xs=>
   obtain⟨l,vs,rfl,h1,l1⟩:=t3.top.tup g2.sub
   rw [C.K] at h1;exact .inl ⟨l,vs,rfl,h1,fun p hp=>cY.tup (W:=W) (G:=G2) (H:=H2) (xs:=xs.reverse) (fun w G' H' g' gu=>o1 w G' H' ((g.trans g2).trans g') (.of gu)) g2.sub (xn l1) hp⟩
  |_=>exact False.elim o1
end
end Ci
namespace Ci
open PySem L2
section
variable{Γ:Pg}{W:Wd}{F:aV}{k:Nat}
theorem Dp{X:Cx}{e:E}{p:Expr}(h:GE X W F e p)(he:∀whole,isTrue p X.env whole=(do let v←whole;standAt p.pos;holding [v] (truthy v))):GT X W F e p:=
 L2.PT.imp (D9 h he) fun σ H Q hq=>Cz σ H Q hq
theorem yk{N:List Str}{sc:Scope}:∀{es:Es} {ps:List Expr},fA Γ N sc es ps=true→∀env pos,(backTo pos (starEach ps env)).all (fun x=>!x.1)=true
 |.nil,[],_,_,_=>rfl
 |.cons e es,p::ps,h,env,pos=>by
  replace h:=aG h
  rw [notStar h.1];show(true&&(backTo pos (starEach ps env)).all (fun x=>!x.1))=true
  rw [yk h.2]
  rfl
 |.nil,_::_,h,_,_=>absurd h zzf
 |.cons _ _,[],h,_,_=>absurd h zzf
theorem yO{N:List Str}{sc:Scope}:∀{es:Es} {ps:List Expr},fA Γ N sc es ps=true→ps.length=fR es
 |.nil,[],_=>rfl
 |.cons e es,p::ps,h=>by
  replace h:=aG h
  rw [List.length_cons,yO h.2]
  rfl
 |.nil,_::_,h=>absurd h zzf
 |.cons _ _,[],h=>absurd h zzf
structure MO(X:Cx)(W:Wd)(F:aV)(e:E)(p:Expr):Prop where
 ge:GE X W F e p
 gt:dI e=true→GT X W F e p
 gw:dI e=true→∀op vs pos,p=.BoolOp op vs pos→GW X W F e p
theorem aY{X:Cx}{e:E}{p:Expr}(h:GE X W F e p)(he:∀whole,isTrue p X.env whole=(do let v←whole;standAt p.pos;holding [v] (truthy v)))(hb:∀op vs pos,p≠.BoolOp op vs pos):MO X W F e p:=
 ⟨h,fun _=>Dp h he,fun _ op vs pos e=>absurd e (hb op vs pos)⟩
theorem isTrue_plain{p:Expr}{env:Env}(h:(match p with|.UnaryOp .Not _ _=>false|.BoolOp .. =>false|.IfExp .. =>false|.Compare .. =>false|_=>true)=true):∀whole,isTrue p env whole=(do let v←whole;standAt p.pos;holding [v] (truthy v)):=by
 intro whole;cases p with
 |UnaryOp op a pos=>cases op<;>first|rfl|(exact absurd h zzf)
 |BoolOp _ _ _=>exact absurd h zzf
 |IfExp _ _ _ _=>exact absurd h zzf
 |Compare _ _ _ _=>exact absurd h zzf
 |_=>rfl
theorem rS{po:Expr}{m:Str}{env:Env}(h:(match po with|.Call .. =>false|_=>true)=true):attributeBase po m env (eval po env)=eval po env:=by
 cases po<;>first|rfl|(exact absurd h zzf)
theorem iN{N:List Str}{sc:Scope}{g:Str}{idx ba:List Nat}:∀{es:Es} {ps:List Expr},uv Γ N sc g idx ba es ps=true→∀env pos,(backTo pos (starEach ps env)).any (·.1)=false
 |.cons e es,p::ps,h,env,pos=>by
  replace h:=aG h
  rw [notStar h.1];show(false||(backTo pos (starEach ps env)).any (·.1))=false
  rw [iN h.2]
  rfl
 |.nil,[p],h,env,pos=>by
  cases p<;>first|(exact absurd h zzf)|rfl
 |.nil,[],h,_,_=>absurd h zzf
 |.nil,p::_::_,h,_,_=>by cases p<;>exact absurd h zzf
 |.cons _ _,[],h,_,_=>absurd h zzf
mutual
theorem bq:∀(e:E) {Γ:Pg} {N:List Str} {sc:Scope} {X:Cx} (C:du Γ F W N sc k X) (p:Expr),aZ Γ N sc e p=true→MO X W F e p
 |.var i,Γ,N,sc,X,C,p,h=>by
  cases p<;>first|(exact absurd h zzf)|skip
  exact aY (DD C h) (fun _=>rfl) (fun _ _ _ z=>nomatch z)
 |.tmp i,Γ,N,sc,X,C,p,h=>by
  cases p<;>first|(exact absurd h zzf)|skip
  exact aY (DK C h) (fun _=>rfl) (fun _ _ _ z=>nomatch z)
 |.cst q,Γ,N,sc,X,C,p,h=>by
  cases p<;>first|(cases q<;>exact absurd h zzf)|skip
  rename_i c _ _;cases q<;>cases c<;>first|(exact absurd h zzf)|skip
  ·exact aY (fQ FN fun G=>.n) (fun _=>rfl) (fun _ _ _ z=>nomatch z)
  ·cases eq_of_beq h;exact aY (fQ GP fun G=>.b) (fun _=>rfl) (fun _ _ _ z=>nomatch z)
  ·cases eq_of_beq h;exact aY (fQ rC fun G=>.i) (fun _=>rfl) (fun _ _ _ z=>nomatch z)
  ·cases eq_of_beq h;exact aY (fQ xJ fun G=>.s) (fun _=>rfl) (fun _ _ _ z=>nomatch z)
 |.glob g q,Γ,N,sc,X,C,p,h=>by
  cases p<;>first|(exact absurd h zzf)|skip
  exact aY (AQ C h) (fun _=>rfl) (fun _ _ _ z=>nomatch z)
 |.call f as,Γ,N,sc,X,C,p,h=>by
  cases p<;>first|(exact absurd h zzf)|skip
  rename_i fn args kI pos;cases fn<;>first|(exact absurd h zzf)|skip
  rename_i g np;cases kI with
  |cons _ _=>exact absurd h zzf
  |nil=>
   replace h:=aG h
   try simp only [zza,beq_iff_eq] at h
   obtain⟨⟨⟨⟨⟨rfl,h1⟩,h2⟩,h3⟩,h4⟩,h5⟩:=h
   have ga:=iU as C args h5
   cases as with
   |nil=>
    cases args with
    |nil=>exact aY (xP C h1 h2 h3) (fun _=>rfl) (fun _ _ _ z=>nomatch z)
    |cons _ _=>exact absurd h5 zzf
   |cons e es=>
    cases args with
    |nil=>exact absurd h5 zzf
    |cons q qs=>
     have h6:=h5
     replace h6:=aG h6
     exact aY (z9 C h1 h2 h3 h4 ga (notStar h6.1 _ _) (dB h6.2 _ _)) (fun _=>rfl) (fun _ _ _ z=>nomatch z)
 |.callv i as,Γ,N,sc,X,C,p,h=>by
  cases p<;>first|(exact absurd h zzf)|skip
  rename_i fn args kI pos;cases fn<;>first|(exact absurd h zzf)|skip
  rename_i g np;cases kI with
  |cons _ _=>exact absurd h zzf
  |nil=>
   replace h:=aG h
   simp only [zza] at h;obtain⟨⟨⟨⟨⟨h1,h2⟩,h3⟩,h4⟩,h6⟩,h5⟩:=h
   have ga:=iU as C args h5
   cases as with
   |nil=>exact absurd h6 zzf
   |cons e es=>
    cases args with
    |nil=>exact absurd h5 zzf
    |cons q qs=>
     have h6:=h5
     replace h6:=aG h6
     exact aY (yZ C (by rw [h1,h2,h3];rfl) h4 ga (notStar h6.1 _ _) (dB h6.2 _ _)) (fun _=>rfl) (fun _ _ _ z=>nomatch z)
 |.callL f as g idx ba,Γ,N,sc,X,C,p,h=>by
  cases p<;>first|(exact absurd h zzf)|skip
  rename_i fn args kI pos;cases fn<;>first|(exact absurd h zzf)|skip
  rename_i hN np;cases kI with
  |cons _ _=>exact absurd h zzf
  |nil=>
   replace h:=aG h
   simp only [zza,List.any_eq_true,beq_iff_eq] at h;obtain⟨⟨⟨⟨⟨⟨h1,h2⟩,h3⟩,h4⟩,h6⟩,q,hq,⟨⟨⟨rfl,rfl⟩,rfl⟩,rfl⟩,hd⟩,h5⟩:=h
   have JU:=of_decide_eq_true hd
   have ga:=CJ as C h1 q.g q.idx ba args h4 h5
   cases as with
   |nil=>exact absurd h6 zzf
   |cons e es=>
    cases args with
    |nil=>exact absurd h5 zzf
    |cons p qs=>
     have h6:=h5
     replace h6:=aG h6
     exact aY (yU C h1 hq h2 h3 JU ga (notStar h6.1 _ _) (iN h6.2 _ _)) (fun _=>rfl) (fun _ _ _ z=>nomatch z)
 |.blt b as,Γ,N,sc,X,C,p,h=>by
  cases p<;>first|(exact absurd h zzf)|skip
  rename_i fn args kI pos;cases fn<;>first|(exact absurd h zzf)|skip
  rename_i g np;cases kI with
  |cons _ _=>exact absurd h zzf
  |nil=>
   replace h:=aG h
   try simp only [zza,beq_iff_eq] at h
   obtain⟨⟨⟨⟨rfl,h1⟩,h2⟩,h3⟩,h5⟩:=h
   have ga:=iU as C args h5
   cases as with
   |nil=>exact absurd h3 zzf
   |cons e es=>
    cases args with
    |nil=>exact absurd h5 zzf
    |cons q qs=>
     have h6:=h5
     replace h6:=aG h6
     exact aY (Em C b h1 h2 ga (notStar h6.1 _ _) (dB h6.2 _ _)) (fun _=>rfl) (fun _ _ _ z=>nomatch z)
 |.ty t a,Γ,N,sc,X,C,p,h=>by
  cases p<;>first|(exact absurd h zzf)|skip
  rename_i fn args kI pos;cases fn<;>first|(exact absurd h zzf)|skip
  rename_i g np
  match args,kI,h with
  |[pa,.Name tn tp],[],h=>
   replace h:=aG h
   try simp only [zza,beq_iff_eq] at h
   obtain⟨⟨⟨⟨⟨⟨rfl,h1⟩,h2⟩,rfl⟩,h3⟩,h4⟩,h5⟩:=h
   exact aY (Dc C h1 h2 h3 h4 (bq a C pa h5).ge (notStar h5)) (fun _=>rfl) (fun _ _ _ z=>nomatch z)
  |[],_,h=>exact absurd h zzf
  |[_],_,h=>exact absurd h zzf
  |_::pb::_::_,_,h=>cases pb<;>exact absurd h zzf
  |[pa,pb],_::_,h=>cases pb<;>exact absurd h zzf
  | [pa, pb], [], h => cases pb<;>first|(exact absurd h zzf)|skip
                       rename_i tn tp;replace h:=aG h
                       try simp only [zza,beq_iff_eq] at h
                       obtain⟨⟨⟨⟨⟨⟨rfl,h1⟩,h2⟩,rfl⟩,h3⟩,h4⟩,h5⟩:=h
                       exact aY (Dc C h1 h2 h3 h4 (bq a C pa h5).ge (notStar h5)) (fun _=>rfl) (fun _ _ _ z=>nomatch z)
 |.mth m o as,Γ,N,sc,X,C,p,h=>by
  cases p<;>first|(exact absurd h zzf)|skip
  rename_i fn args kI pos;cases fn<;>first|(exact absurd h zzf)|skip
  rename_i po attr apos;cases kI with
  |cons _ _=>exact absurd h zzf
  |nil=>
   replace h:=aG h
   simp only [zza] at h;obtain⟨⟨⟨⟨⟨⟨e1,h1⟩,h2⟩,h3⟩,h4⟩,h5⟩,h6⟩:=h
   cases beq_iff_eq.mp e1;have ga:=iU as C args h5
   cases as with
   |nil=>exact absurd h1 zzf
   |cons e es=>
    cases args with
    |nil=>exact absurd h5 zzf
    |cons q qs=>
     have h7:=h5
     replace h7:=aG h7
     have hl:=yO h5
     refine aY (FE C (bq o C po h4).ge ga (rS h6) ?_ h3 (notStar h7.1 _ _) (dB h7.2 _ _)) (fun _=>rfl) (fun _ _ _ z=>nomatch z);rw [yk h5];have qD:=of_decide_eq_true h2
     refine Bool.and_eq_true_iff.mpr ⟨rfl,decide_eq_true ?_⟩;rw [hl];exact qD
 |.bin o a b,Γ,N,sc,X,C,p,h=>by
  cases p<;>first|(exact absurd h zzf)|skip
  replace h:=aG h
  try simp only [zza,decide_eq_true_eq] at h
  obtain⟨⟨rfl,h1⟩,h2⟩:=h
  exact aY (Ds C (bq a C _ h1).ge (bq b C _ h2).ge) (fun _=>rfl) (fun _ _ _ z=>nomatch z)
 |.cmp o a b,Γ,N,sc,X,C,p,h=>by
  cases p<;>first|(exact absurd h zzf)|skip
  rename_i pa ops cs pos
  match ops,cs,h with
  |[op],[pb],h=>
   replace h:=aG h
   try simp only [zza,decide_eq_true_eq] at h
   obtain⟨⟨rfl,h1⟩,h2⟩:=h
   exact⟨F6 C (bq a C _ h1).ge (bq b C _ h2).ge (n4 h2 _),fun _=>E7 C (bq a C _ h1).ge (bq b C _ h2).ge (n4 h2 _),(fun _ _ _ _ z=>nomatch z)⟩
  |[],_,h=>exact absurd h zzf
  |_::_::_,_,h=>exact absurd h zzf
  |[_],[],h=>exact absurd h zzf
  |[_],_::_::_,h=>exact absurd h zzf
 |.ch o1 o2 a b c,Γ,N,sc,X,C,p,h=>by
  cases p<;>first|(exact absurd h zzf)|skip
  rename_i pa ops cs pos
  match ops,cs,h with
  |[op1,op2],[pb,pc],h=>
   replace h:=aG h
   try simp only [zza,decide_eq_true_eq] at h
   obtain⟨⟨⟨⟨rfl,rfl⟩,h1⟩,h2⟩,h3⟩:=h
   have hm:lastMarks [oH o1,oH o2] [pb,pc]=false:=n4 h3 _
   exact⟨IP C (bq a C _ h1).ge (bq b C _ h2).ge (bq c C _ h3).ge hm,fun _=>Hh C (bq a C _ h1).ge (bq b C _ h2).ge (bq c C _ h3).ge hm,(fun _ _ _ _ z=>nomatch z)⟩
  |[],_,h=>exact absurd h zzf
  |[_],_,h=>exact absurd h zzf
  |_::_::_::_,_,h=>exact absurd h zzf
  |[_,_],[],h=>exact absurd h zzf
  |[_,_],[_],h=>exact absurd h zzf
  |[_,_],_::_::_::_,h=>exact absurd h zzf
 |.not a,Γ,N,sc,X,C,p,h=>by
  cases p<;>first|(exact absurd h zzf)|skip
  rename_i op pa pos;cases op<;>first|(exact absurd h zzf)|skip
  have h:aZ Γ N sc a pa=true:=h
  have s:=bq a C pa h
  exact⟨DM s.ge,fun z=>Fm (s.gt (by simpa only [dI] using z)),(fun _ _ _ _ z=>nomatch z)⟩
 |.neg a,Γ,N,sc,X,C,p,h=>by
  cases p<;>first|(exact absurd h zzf)|skip
  rename_i op pa pos;cases op<;>first|(exact absurd h zzf)|skip
  have h:aZ Γ N sc a pa=true:=h
  exact aY (yu (bq a C pa h).ge) (fun _=>rfl) (fun _ _ _ z=>nomatch z)
 |.and a b,Γ,N,sc,X,C,p,h=>by
  cases p<;>first|(exact absurd h zzf)|skip
  rename_i op vs pos;cases op with
  |Or=>exact absurd h zzf
  |And=>
   match vs,h with
   |[],h=>exact absurd h zzf
   |[_],h=>exact absurd h zzf
   |[pa,pb],h=>
    replace h:=aG h
    try simp only [zza] at h
    obtain⟨⟨he,h1⟩,h2⟩:=h
    have sa:=bq a C pa h1
    have sb:=bq b C pb h2
    have gw:dI (.and a b)=true→GW X W F (.and a b) (.BoolOp .And [pa,pb] pos):=fun z=>by
     simp only [dI,zza] at z;exact xG (sa.gt z.1) (pw_and1 (sb.gt z.2))
    exact⟨yV he sa.ge (yv sb.ge),fun z=>(gw z).pt,fun z _ _ _ _=>gw z⟩
   |pa::pb::pc::r,h=>
    replace h:=aG h
    try simp only [zza] at h
    obtain⟨⟨he,h1⟩,h2⟩:=h
    have sa:=bq a C pa h1
    have sb:=bq b C _ h2
    have gw:dI (.and a b)=true→GW X W F (.and a b) (.BoolOp .And (pa::pb::pc::r) pos):=fun z=>by
     simp only [dI,zza] at z;exact xG (sa.gt z.1) (sb.gw z.2 _ _ _ rfl)
    exact⟨yV he sa.ge sb.ge,fun z=>(gw z).pt,fun z _ _ _ _=>gw z⟩
 |.or a b,Γ,N,sc,X,C,p,h=>by
  cases p<;>first|(exact absurd h zzf)|skip
  rename_i op vs pos;cases op with
  |And=>exact absurd h zzf
  |Or=>
   match vs,h with
   |[],h=>exact absurd h zzf
   |[_],h=>exact absurd h zzf
   |[pa,pb],h=>
    replace h:=aG h
    try simp only [zza] at h
    obtain⟨⟨he,h1⟩,h2⟩:=h
    have sa:=bq a C pa h1
    have sb:=bq b C pb h2
    have gw:dI (.or a b)=true→GW X W F (.or a b) (.BoolOp .Or [pa,pb] pos):=fun z=>by
     simp only [dI,zza] at z;exact CT (sa.gt z.1) (pw_or1 (sb.gt z.2))
    exact⟨Dd he sa.ge (yv sb.ge),fun z=>(gw z).pt,fun z _ _ _ _=>gw z⟩
   |pa::pb::pc::r,h=>
    replace h:=aG h
    try simp only [zza] at h
    obtain⟨⟨he,h1⟩,h2⟩:=h
    have sa:=bq a C pa h1
    have sb:=bq b C _ h2
    have gw:dI (.or a b)=true→GW X W F (.or a b) (.BoolOp .Or (pa::pb::pc::r) pos):=fun z=>by
     simp only [dI,zza] at z;exact CT (sa.gt z.1) (sb.gw z.2 _ _ _ rfl)
    exact⟨Dd he sa.ge sb.ge,fun z=>(gw z).pt,fun z _ _ _ _=>gw z⟩
 |.ite c a b,Γ,N,sc,X,C,p,h=>by
  cases p<;>first|(exact absurd h zzf)|skip
  replace h:=aG h
  try simp only [zza] at h
  obtain⟨⟨⟨⟨⟨h0,h1⟩,h2⟩,h3⟩,h4⟩,h5⟩:=h
  exact⟨ER h1 h2 ((bq c C _ h3).gt h0) (bq a C _ h4).ge (bq b C _ h5).ge,(fun z=>nomatch z),(fun _ _ _ _ z=>nomatch z)⟩
 |.tup as,Γ,N,sc,X,C,p,h=>by
  cases p<;>first|(exact absurd h zzf)|skip
  replace h:=aG h
  try simp only [zza,decide_eq_true_eq] at h
  exact aY (Gg h.1.1 h.1.2 (iU as C _ h.2)) (fun _=>rfl) (fun _ _ _ z=>nomatch z)
 |.lst as,Γ,N,sc,X,C,p,h=>by
  cases p<;>first|(exact absurd h zzf)|skip
  replace h:=aG h
  try simp only [zza,decide_eq_true_eq] at h
  exact aY ((xl h.1.1 h.1.2 (iU as C _ h.2)).ge lst_is) (fun _=>rfl) (fun _ _ _ z=>nomatch z)
 |.sub a b,Γ,N,sc,X,C,p,h=>by
  cases p<;>first|(exact absurd h zzf)|skip
  replace h:=aG h
  try simp only [zza] at h
  exact aY (Fd C (bq a C _ h.1).ge (bq b C _ h.2).ge (x6 h.2)) (fun _=>rfl) (fun _ _ _ z=>nomatch z)
 |.rev a,Γ,N,sc,X,C,p,h=>by
  cases p<;>first|(exact absurd h zzf)|skip
  rename_i pa ps pos;cases ps<;>first|(exact absurd h zzf)|skip
  rename_i pl ph pst p2
  match pl,ph,pst,h with
  |some _,_,_,h=>exact absurd h zzf
  |none,some _,_,h=>exact absurd h zzf
  |none,none,none,h=>exact absurd h zzf
  |none,none,some st,h=>
   cases st<;>first|(exact absurd h zzf)|skip
   rename_i uo ue up;cases uo<;>first|(exact absurd h zzf)|skip
   cases ue<;>first|(exact absurd h zzf)|skip
   rename_i cc c2 c3;cases cc<;>first|(exact absurd h zzf)|skip
   replace h:=aG h
   cases beq_iff_eq.mp h.1;exact aY (E8 C (bq a C pa h.2).ge (yu (fQ rC fun G=>.i))) (fun _=>rfl) (fun _ _ _ z=>nomatch z)
 |.slice a lo hi,Γ,N,sc,X,C,p,h=>by
  cases p<;>first|(exact absurd h zzf)|skip
  rename_i pa ps pos;cases ps<;>first|(exact absurd h zzf)|skip
  rename_i pl ph pst p2;cases pst with
  |some _=>exact absurd h zzf
  |none=>
   replace h:=aG h
   try simp only [zza] at h
   exact aY (xN C (bq a C _ h.1.1).ge (Hz lo C pl h.1.2) (Hz hi C ph h.2)) (fun _=>rfl) (fun _ _ _ z=>nomatch z)
 |.comp kk ba tg it elt,Γ,N,sc,X,C,p,h=>by
  cases p<;>first|(exact absurd h zzf)|skip
  rename_i dq gens scope pos
  match gens,h with
  |[⟨cy,eG,[],asy⟩],h=>
   replace h:=aG h
   simp only [zza] at h;obtain⟨⟨⟨⟨⟨⟨h1,h2⟩,h3⟩,h4⟩,h5⟩,h6⟩,gB⟩:=h
   have gB:=of_decide_eq_true gB
   subst gB;refine aY ((sX C (hX h1) h2 h3 (ya it C cy eG h4) (ib h4 _) h5 fun Y CY=>(bq elt CY dq h6).ge).ge fun env q e=>?_) (fun _=>rfl) (fun _ _ _ z=>nomatch z)
   rw [az] at e;obtain⟨ps,_,e⟩:=Res.bind_ok e
   split at e
   ·obtain⟨ys,_,e⟩:=Res.bind_ok e
    cases e;exact⟨_,rfl⟩
   ·cases e
  |[],h=>exact absurd h zzf
  |⟨_,_,[],_⟩::_::_,h=>exact absurd h zzf
  |⟨_,_,[_],_⟩::_::_,h=>exact absurd h zzf
  |⟨_,_,_::_::_,_⟩::_::_,h=>exact absurd h zzf
  |[⟨_,_,_::_,_⟩],h=>exact absurd h zzf
 |.compIf kk ba tg it c elt,Γ,N,sc,X,C,p,h=>by
  cases p<;>first|(exact absurd h zzf)|skip
  rename_i dq gens scope pos
  match gens,h with
  |[⟨cy,eG,[pc],asy⟩],h=>
   replace h:=aG h
   simp only [zza] at h;obtain⟨⟨⟨⟨⟨⟨⟨⟨h0,h1⟩,h2⟩,h3⟩,h4⟩,h5⟩,h6⟩,h7⟩,gB⟩:=h
   have gB:=of_decide_eq_true gB
   subst gB;refine aY ((lK C (hX h1) h2 h3 (ya it C cy eG h4) (ib h4 _) h5 (fun Y CY=>(bq c CY pc h6).gt h0) fun Y CY=>(bq elt CY dq h7).ge).ge fun env q e=>?_) (fun _=>rfl) (fun _ _ _ z=>nomatch z)
   rw [az] at e;obtain⟨ps,_,e⟩:=Res.bind_ok e
   split at e
   ·obtain⟨ys,_,e⟩:=Res.bind_ok e
    cases e;exact⟨_,rfl⟩
   ·cases e
  |[],h=>exact absurd h zzf
  |⟨_,_,[],_⟩::_::_,h=>exact absurd h zzf
  |⟨_,_,[_],_⟩::_::_,h=>exact absurd h zzf
  |⟨_,_,_::_::_,_⟩::_::_,h=>exact absurd h zzf
  |[⟨_,_,[],_⟩],h=>exact absurd h zzf
  |[⟨_,_,_::_::_,_⟩],h=>exact absurd h zzf
theorem iU:∀(es:Es) {Γ:Pg} {N:List Str} {sc:Scope} {X:Cx} (C:du Γ F W N sc k X) (ps:List Expr),fA Γ N sc es ps=true→GA X W F es ps
 |.nil,Γ,N,sc,X,C,ps,h=>by
  cases ps with
  |nil=>exact ED
  |cons _ _=>exact absurd h zzf
 |.cons e es,Γ,N,sc,X,C,ps,h=>by
  cases ps with
  |nil=>exact absurd h zzf
  |cons p ps=>
   replace h:=aG h
   exact Bj (bq e C p h.1).ge (iU es C ps h.2) (notStar h.1 _ _)
theorem CJ:∀(es:Es) {Γ:Pg} {N:List Str} {sc:Scope} {X:Cx} (C:du Γ F W N sc k X) (hl:Γ.hl=true) (g:Str) (idx ba:List Nat) (ps:List Expr),gb es=true→uv Γ N sc g idx ba es ps=true→PA X ps (Ja X W F N sc g idx ba es)
 |.nil,Γ,N,sc,X,C,hl,g,idx,ba,ps,he,h=>by
  match ps,h with
  |[],h=>exact absurd h zzf
  |[p],h=>
   cases p<;>first|(exact absurd h zzf)|skip
   replace h:=aG h
   have h1:=aG h.1
   exact BZ C hl ⟨h1.1,of_decide_eq_true h1.2,fun y hy=>of_decide_eq_true (List.all_eq_true.mp h.2 y hy)⟩
  |p::_::_,h=>cases p<;>exact absurd h zzf
 |.cons e es,Γ,N,sc,X,C,hl,g,idx,ba,ps,he,h=>by
  cases ps with
  |nil=>exact absurd h zzf
  |cons p ps=>
   replace h:=aG h
   have Ek:=aG (show(ff e&&gb es)=true from he)
   exact yA he (bq e C p h.1).ge (CJ es C hl g idx ba ps Ek.2 h.2) (notStar h.1 _ _)
theorem Hz:∀(o:Oe) {Γ:Pg} {N:List Str} {sc:Scope} {X:Cx} (C:du Γ F W N sc k X) (p:Option Expr),Er Γ N sc o p=true→PO X p (zD X W F o)
 |.no,Γ,N,sc,X,C,p,h=>by
  cases p with
  |none=>exact Ac
  |some _=>exact absurd h zzf
 |.some e,Γ,N,sc,X,C,p,h=>by
  cases p with
  |none=>exact absurd h zzf
  |some p=>
   exact A4 (bq e C p h).ge
theorem ya:∀(it:I) {Γ:Pg} {N:List Str} {sc:Scope} {X:Cx} (C:du Γ F W N sc k X) (tg p:Expr),uU Γ N sc tg it p=true→GI X W F tg it p
 |.seq e,Γ,N,sc,X,C,tg,p,h=>by
  exact EE C (bq e C p h).ge
 |.rng e,Γ,N,sc,X,C,tg,p,h=>by
  cases p<;>first|(exact absurd h zzf)|skip
  rename_i fn args kI pos;cases fn<;>first|(exact absurd h zzf)|skip
  match args,kI,h with
  |[q],[],h=>
   replace h:=aG h
   try simp only [zza] at h
   obtain⟨⟨⟨e1,h1⟩,h2⟩,h3⟩:=h
   cases beq_iff_eq.mp e1;exact Ej C h1 h2 (notStar h3) (bq e C q h3).ge
  |[],_,h=>exact absurd h zzf
  |_::_::_,_,h=>exact absurd h zzf
  |[_],_::_,h=>exact absurd h zzf
 |.rng2 a b,Γ,N,sc,X,C,tg,p,h=>by
  cases p<;>first|(exact absurd h zzf)|skip
  rename_i fn args kI pos;cases fn<;>first|(exact absurd h zzf)|skip
  match args,kI,h with
  |[q,r],[],h=>
   replace h:=aG h
   try simp only [zza] at h
   obtain⟨⟨⟨⟨e1,h1⟩,h2⟩,h3⟩,h4⟩:=h
   cases beq_iff_eq.mp e1;exact BE C h1 h2 (notStar h3) (notStar h4) (bq a C q h3).ge (bq b C r h4).ge
  |[],_,h=>exact absurd h zzf
  |[_],_,h=>exact absurd h zzf
  |_::_::_::_,_,h=>exact absurd h zzf
  |[_,_],_::_,h=>exact absurd h zzf
 |.enum e,Γ,N,sc,X,C,tg,p,h=>by
  cases p<;>first|(exact absurd h zzf)|skip
  rename_i fn args kI pos;cases fn<;>first|(exact absurd h zzf)|skip
  match args,kI,h with
  |[q],[],h=>
   replace h:=aG h
   try simp only [zza] at h
   obtain⟨⟨⟨⟨h0,e1⟩,h1⟩,h2⟩,h3⟩:=h
   cases beq_iff_eq.mp e1;cases tg<;>first|(exact absurd h0 zzf)|skip
   exact Bd C h1 h2 (notStar h3) (bq e C q h3).ge
  |[],_,h=>exact absurd h zzf
  |_::_::_,_,h=>exact absurd h zzf
  |[_],_::_,h=>exact absurd h zzf
end
end
end Ci
namespace L2
open PySem PySem.Spec PyProof.Rows
section
variable{X:Cx}{scope:Scope}{xs ys:List Str}{is:List Nat}
theorem qO{i₀:Nat}{x₀:Str}{pos' fc:Pos}{elt tg iter:Expr}{pos:Pos}{wi:TI}{g:TG}{te:TE}(hN₀:X.N.Nodup)(hi₀:X.N[i₀]?=some x₀)(hx₀:Loc X.env.scope x₀)(hc:X.calm=true)(S:dQ X scope xs ys is)(hi:PI X tg iter wi)
 (hg:∀fp s1 H1 C,PG (bW X (xs++ys) scope (bJ X.env ys) fp s1 H1 C) tg g) (he:∀fp s1 H1 C,PE (bW X (xs++ys) scope (bJ X.env ys) fp s1 H1 C) elt te)
 (v5:swapsWith (.ListComp elt [⟨tg,iter,[],0⟩] scope pos) (some (.Name x₀ pos')) fc.line X.env=pure true:=by rfl)
 (hs:∀x,foldedSetIterable iter X.env x=pure x:=by intro _;rfl) (hf₀:X.fn x₀=true∨X.env.scope.names.lookup x₀=some .local:=by first|exact .inl rfl|exact .inr rfl|assumption):
 PS X (.Assign [.Name x₀ pos'] (.ListComp elt [⟨tg,iter,[],0⟩] scope pos) fc) (B0 (yE wi xs.length g te is) (fM i₀)):=by
 intro pins s σ H D₀ I h;rw [exec_Assign_Name_used _ _ _ _ v5];refine wpAny_bind (wpAny_standAt (wpAny_bind ?_));show wpAny _ X.A (do let _←comprehension (.ListComp elt [⟨tg,iter,[],0⟩] scope pos) scope X.env _ (newList []) false (eval iter X.env) (some (assign (.Name x₀ pos') X.env))) _ _ s;refine wpAny_bind (wpAny_mono (fX (QQ:=fun _ s'=>∃σ2 H2,Inv X pins σ2 H2 s'∧D₀.nx σ2 H2) (Q:=fun v H4=>fM i₀ v σ H4 D₀.nx) hc S hi hg (fun _ _ _ _=>uk) he hs I h fun D C s4 H4 m I5 hn ⟨g0,g1,_,g3,g4,g5⟩ q=>?_) (fun _ s' hq=>wpAny_pure (wpAny_pure hq)) fun _ _ e=>e)
 refine wpAny_assign_Name (iw I5 hN₀ hi₀ hx₀ (show RelV (.ref D) (.ref D) from rfl) (fun s6 I6 ⟨a6,sb6,ha6⟩=>?_) hf₀);have xY:C≠a6:=by
  rcases ha6 with z|z
  ·rw [z];exact g1
  ·exact fun z2=>g4 _ _ z z2.symm
 exact⟨m,hn.sameBut sb6 xY,fun h' vI=>⟨_,_,I6.turned (t':=s6.toks) (it:=C) (fun b o hb e=>vI.extBut b o hb e) g0 g1 g3 g4 g5,q⟩⟩
end
end L2
namespace Ci
open PySem L2
section
variable{W:Wd}{G0 H0 G H:Hp}{env:Sl}{σ:St}
theorem Own.thing{p:PV}{v:V}(h:Own W H0 G H p v):∃a o,v=.ref a∧H a=some o∧G a=none∧H0 a=none∧((∀G',aF G G'→G' a=some o→Rep W G' p (.ref a))∨∃aB,o=.dT aB∧∀ob G',aF G G'→G' a=some (.frz ob (.dT aB))→Rep W G' p (.ref a)):=by
 cases p with
 |lst xs=>
  obtain⟨a,vs,rfl,h1,h2,h3,l⟩:=h
  exact⟨a,_,rfl,h1,h2,h3,.inl fun G' s e=>.l (.inl (.inl e)) (ak.same s xs l)⟩
 |dct ks ps=>
  obtain⟨a,us,rfl,n,h1,h2,h3,l⟩:=h
  exact⟨a,_,rfl,h1,h2,h3,.inr ⟨_,rfl,fun ob G' s e=>by simp only [Rep];exact⟨a,ob,us,rfl,n,e,ak.same s ps l⟩⟩⟩
 |non=>exact h.elim
 |bl _=>exact h.elim
 |int _=>exact h.elim
 |str _=>exact h.elim
 |tup _=>exact h.elim
 |exc _=>exact h.elim
theorem Own.notbl{p:PV}{a:Addr}(h:Own W H0 G H p (.ref a))(ps:Array Value):H a≠some (.tbl ps):=fun z=>by
 cases p with
 |lst xs=>obtain⟨b,vs,e,h1,_⟩:=h;cases e;rw [z] at h1;cases h1
 |dct ks qs=>
  obtain⟨b,us,e,_,h1,_⟩:=h
  cases e;rw [z] at h1;cases h1
 |non=>exact h.elim
 |bl _=>exact h.elim
 |int _=>exact h.elim
 |str _=>exact h.elim
 |tup _=>exact h.elim
 |exc _=>exact h.elim
theorem oG{a:Addr}{ob:HO}{H':Hp}(t:cD W G H)(hG:G a=none)(n:∀ps,H a≠some (.tbl ps))(hH:∀b,b≠a→H' b=H b):cD W (upd G a ob) H':=fun P q m=>by
 obtain⟨n1,ps,e,tr,al⟩:=t P q m
 have hP:P≠a:=fun z=>by subst z;exact n ps e
 refine⟨by rw [ag hP];exact n1,ps,by rw [hH P hP];exact e,tr,fun pos cv y=>?_⟩
 obtain⟨c',oc,cU,t',e1,e2,e3,e4⟩:=al pos cv y
 exact⟨c',oc,cU,t',e1,bD hG _ _ e2,e3,e4⟩
theorem Own.stay{p:PV}{v:V}{a:Addr}{G' H':Hp}(h:Own W H0 G H p v)(hv:v≠.ref a)(sG:aF G G')(hG:∀b,b≠a→G' b=G b)(hH:∀b,b≠a→H' b=H b):Own W H0 G' H' p v:=by
 cases p with
 |lst xs=>
  obtain⟨b,vs,rfl,h1,h2,h3,l⟩:=h
  have hb:b≠a:=fun z=>hv (by rw [z])
  exact⟨b,vs,rfl,by rw [hH b hb];exact h1,by rw [hG b hb];exact h2,h3,ak.same sG xs l⟩
 |dct ks ps=>
  obtain⟨b,us,rfl,n,h1,h2,h3,l⟩:=h
  have hb:b≠a:=fun z=>hv (by rw [z])
  exact⟨b,us,rfl,n,by rw [hH b hb];exact h1,by rw [hG b hb];exact h2,h3,ak.same sG ps l⟩
 |non=>exact h.elim
 |bl _=>exact h.elim
 |int _=>exact h.elim
 |str _=>exact h.elim
 |tup _=>exact h.elim
 |exc _=>exact h.elim
theorem getElem?_modify{α:Type}(l:List α)(i j:Nat)(f:α→α):(l.modify i f)[j]?=if i=j then(l[j]?).map f else l[j]?:=by
 rw [List.getElem?_modify];split<;>simp_all
theorem qx(r:SR W H0 env σ G H)(g:aJ W G0 H0 G H){i:Nat}{p:PV}{a:Addr}{ob GH:HO}{H':Hp}(hp:env[i]?=some (.own p))(ho:σ[i]?=some (some (.ref a)))(HJ:Own W H0 G H p (.ref a))(hH:H a=some ob)(hG:G a=none)(zH:H0 a=none)
 (xo:∀G',aF G G'→G' a=some GH→Rep W G' p (.ref a)) (h1:H' a=some GH) (h2:∀b,b≠a→H' b=H b):SR W H0 (env.modify i nt) σ (upd G a GH) H'∧aJ W G0 H0 (upd G a GH) H':=by
 have sG:aF G (upd G a GH):=bD hG
 have sub:aF (upd G a GH) H':=fun b u e=>by
  by_cases hb:b=a
  ·subst hb;rw [av] at e;cases e;exact h1
  ·rw [ag hb] at e;rw [h2 b hb];exact r.sub _ _ e
 have base:∀{B:Hp},B a=none→gN B H→gN B H':=fun hB k b u e=>by
  have hb:b≠a:=fun z=>by rw [z,hB] at e;cases e
  rw [h2 b hb];exact k b u e
 refine⟨⟨by rw [List.length_modify];exact r.len,sub,base zH r.base,fun j s e=>?_,fun j l q q' c e1 e2 e3 e4=>?_,oG r.tab hG HJ.notbl h2,oG r.tab0 hG (fun ps z=>by rw [zH] at z;cases z) fun _ _=>rfl⟩,⟨g.g.trans sG,base zH g.h,sub,fun b h3 h5 h4=>?_,fun t=>oG (g.tab t) hG HJ.notbl h2⟩⟩
 ·rw [getElem?_modify] at e;split at e
  ·rename_i z;subst z;rw [hp] at e;cases e;exact⟨_,ho,_,rfl,xo _ sG av⟩
  ·rename_i z;obtain⟨o2,k1,k2⟩:=r.slot j s e
   refine⟨o2,k1,?_⟩;cases s with
   |no=>exact trivial
   |val q=>
    obtain⟨v2,rfl,rv⟩:=k2
    exact⟨v2,rfl,Rep.same sG q rv⟩
   |fn _ _ _=>
    obtain⟨v2,rfl,rv⟩:=k2
    exact⟨v2,rfl,rv.same sG⟩
   |own q=>
    obtain⟨v2,rfl,ov⟩:=k2
    refine⟨v2,rfl,ov.stay (a:=a) (fun zz=>?_) sG (fun b hb=>ag hb) h2⟩;subst zz;exact z (r.apart i j p q a hp e ho k1)
 ·rw [getElem?_modify] at e1 e2;have ne:∀{j:Nat} {q:PV},(if i=j then(env[j]?).map nt else env[j]?)=some (.own q)→i≠j∧env[j]?=some (.own q):=fun{j q} e=>by
   split at e
   ·rename_i z;subst z;rw [hp] at e;cases e
   ·rename_i z;exact⟨z,e⟩
  exact r.apart j l q q' c (ne e1).2 (ne e2).2 e3 e4
 ·have hb:b≠a:=fun z=>h3 (by rw [z];exact zH)
  rw [ag hb];exact g.own b h3 h5 h4
theorem Ed(r:SR W H0 env σ G H)(g:aJ W G0 H0 G H)(i:Nat):(∃G',SR W H0 (env.modify i nt) σ G' H∧aJ W G0 H0 G' H)∨∃a aB,H a=some (.dT aB)∧∀o,∃G',SR W H0 (env.modify i nt) σ G' (upd H a (.frz o (.dT aB)))∧aJ W G0 H0 G' (upd H a (.frz o (.dT aB))):=by
 have same:(∀p,env[i]?≠some (.own p))→env.modify i nt=env:=fun h=>by
  refine List.ext_getElem? fun j=>?_
  rw [getElem?_modify];split
  ·rename_i e;subst e;cases q:env[i]? with
   |none=>rfl
   |some s=>
    cases s with
    |own p=>exact absurd q (h p)
    |no=>rfl
    |val p=>rfl
    |fn _ _ _=>rfl
  ·rfl
 by_cases hx:∃p,env[i]?=some (.own p)
 ·obtain⟨p,hp⟩:=hx
  obtain⟨o,ho,v,rfl,ow⟩:=r.slot i _ hp
  have HJ:=ow
  obtain⟨a,ob,rfl,hH,hG,zH,xo|⟨aB,rfl,xo⟩⟩:=ow.thing
  ·obtain⟨k1,k2⟩:=qx r g hp ho HJ hH hG zH xo hH fun _ _=>rfl
   exact .inl ⟨_,k1,k2⟩
  ·refine .inr ⟨a,aB,hH,fun o=>?_⟩
   obtain⟨k1,k2⟩:=qx r g hp ho HJ hH hG zH (xo o) av fun b hb=>ag hb
   exact⟨_,k1,k2⟩
 ·exact .inl ⟨G,by rw [same fun p z=>hx ⟨p,z⟩];exact r,g⟩
theorem jo(r:SR W H0 env σ G H)(g:aJ W G0 H0 G H){i:Nat}{p p':PV}{a:Addr}{ob:HO}(hp:env[i]?=some (.own p))(hs:σ[i]?=some (some (.ref a)))(hG:G a=none)(zH:H0 a=none)(hn:Own W H0 G (upd H a ob) p' (.ref a)):
 SR W H0 (env.set i (.own p')) σ G (upd H a ob)∧aJ W G0 H0 G (upd H a ob):=by
 have cq:i<env.length:=(List.getElem?_eq_some_iff.mp hp).1
 have Ob:∀ps,H a≠some (.tbl ps):=by
  obtain⟨o2,h1,v2,rfl,ow⟩:=r.slot i _ hp
  rw [hs] at h1;cases h1;exact ow.notbl
 have tab:∀{G1:Hp},cD W G1 H→cD W G1 (upd H a ob):=fun t=>t.same (aF.refl _) (fun _ _ _ h=>h) (mY Ob)
 refine⟨⟨by rw [List.length_set];exact r.len,fun b u e=>?_,fun b u e=>?_,fun j s e=>?_,fun j l q q' c e1 e2 e3 e4=>?_,tab r.tab,r.tab0⟩,⟨g.g,fun b u e=>?_,fun b u e=>?_,g.own,fun t=>tab (g.tab t)⟩⟩
 ·rw [ag (fun z=>by subst z;rw [hG] at e;cases e)];exact r.sub _ _ e
 ·rw [ag (fun z=>by subst z;rw [zH] at e;cases e)];exact r.base _ _ e
 ·by_cases hj:i=j
  ·subst hj;rw [List.getElem?_set_self cq] at e;cases e;exact⟨_,hs,_,rfl,hn⟩
  ·rw [List.getElem?_set_ne hj] at e;obtain⟨o2,h1,h2⟩:=r.slot j s e
   refine⟨o2,h1,?_⟩;cases s with
   |no=>exact trivial
   |val q=>exact h2
   |fn _ _ _=>exact h2
   |own q=>
    obtain⟨v2,rfl,ov⟩:=h2
    refine⟨v2,rfl,ov.stay (a:=a) (fun zz=>?_) (aF.refl _) (fun b hb=>rfl) fun b hb=>ag hb⟩
    subst zz;exact hj (r.apart i j p q a hp e hs h1)
 ·have tr:∀{j:Nat} {q:PV},(env.set i (.own p'))[j]?=some (.own q)→∃q2,env[j]?=some (.own q2):=fun{j q} e=>by
   by_cases hj:i=j
   ·subst hj;exact⟨p,hp⟩
   ·rw [List.getElem?_set_ne hj] at e;exact⟨q,e⟩
  obtain⟨q2,f1⟩:=tr e1
  obtain⟨q3,f2⟩:=tr e2
  exact r.apart j l q2 q3 c f1 f2 e3 e4
 ·rw [ag (fun z=>by subst z;rw [zH] at e;cases e)];exact g.h _ _ e
 ·rw [ag (fun z=>by subst z;rw [hG] at e;cases e)];exact g.sub _ _ e
theorem yh(r:SR W H0 env σ G H)(g:aJ W G0 H0 G H){i:Nat}{p:PV}{a:Addr}{ob:HO}(hi:i<env.length)(ha:H a=none)(hn:Own W H0 G (upd H a ob) p (.ref a)):
 SR W H0 (env.set i (.own p)) (σ.set i (some (.ref a))) G (upd H a ob)∧aJ W G0 H0 G (upd H a ob):=by
 have gm:aJ W G H G (upd H a ob):=.mine r.sub ha
 have r1:=r.grow gm
 have old:∀{j:Nat} {q:PV},env[j]?=some (.own q)→σ[j]?=some (some (.ref a))→False:=fun{j q} e1 e2=>by
  obtain⟨o2,h1,v2,rfl,ov⟩:=r.slot j _ e1
  rw [e2] at h1;cases h1;obtain⟨a',o',e3,hH,_⟩:=ov.thing
  cases e3;rw [ha] at hH;cases hH
 refine⟨⟨by rw [List.length_set,List.length_set];exact r.len,r1.sub,r1.base,fun j s e=>?_,fun j l q q' c e1 e2 e3 e4=>?_,r1.tab,r1.tab0⟩,g.trans gm⟩
 ·by_cases hj:i=j
  ·subst hj;rw [List.getElem?_set_self hi] at e;cases e;exact⟨_,List.getElem?_set_self (by rw [←r.len];exact hi),_,rfl,hn⟩
  ·rw [List.getElem?_set_ne hj] at e;obtain⟨o2,h1,h2⟩:=r1.slot j s e
   exact⟨o2,by rw [List.getElem?_set_ne hj];exact h1,h2⟩
 ·by_cases hj:i=j
  ·by_cases hl:i=l
   ·exact hj.symm.trans hl
   ·exfalso
    subst hj;rw [List.getElem?_set_self (by rw [←r.len];exact hi)] at e3;rw [List.getElem?_set_ne hl] at e2 e4;cases e3;exact old e2 e4
  ·by_cases hl:i=l
   ·exfalso
    subst hl;rw [List.getElem?_set_self (by rw [←r.len];exact hi)] at e4;rw [List.getElem?_set_ne hj] at e1 e3;cases e4;exact old e1 e3
   ·rw [List.getElem?_set_ne hj] at e1 e3;rw [List.getElem?_set_ne hl] at e2 e4;exact r.apart j l q q' c e1 e2 e3 e4
end
end Ci
namespace Ci
open PySem L2
def g6:E→Bool
 |.lst _=>true
 |.comp _ _ _ _ _=>true
 |.compIf _ _ _ _ _ _=>true
 |_=>false
def oy:Expr→Bool
 |.ListComp .. =>false
 |.SetComp .. =>false
 |.DictComp .. =>false
 |_=>true
def EH:Expr→Bool
 |.Tuple .. =>false
 |_=>true
noncomputable def KZ(sc:Scope)(x:Str)(xp:Pos):Expr→Bool
 |.ListComp _ _ s p=>sc.names.lookup x==some .local&&xp.line==p.line&&!(s.names.any fun(n,k)=>n==x&&(k==.local||k==.cell))
 |_=>false
def Gk:List Expr→Option Str
 |[.Name x _]=>some x
 |_=>none
def vD:List Expr→Option Expr
 |[t]=>some t
 |_=>none
def Ht:Expr→Option (Str×Str×List Expr)
 |.Call (.Attribute (.Name x _) m apos) args [] bC=>if apos.endLine==bC.line then some (x,m,args) else none
 |_=>none
def zX:Expr→Option Str
 |.Name x _=>some x
 |_=>none
theorem m6{α:Type}{a:α}{p:Prop}(h:(none:Option α)=some a):p:=nomatch h
theorem nY{e:Expr}{x:Str}(h:zX e=some x):∃p,e=.Name x p:=by
 cases e with
 |Name y p=>cases h;exact⟨_,rfl⟩
 |_=>exact m6 h
noncomputable def MX:Expr→Option (Str×Arguments×Expr×Scope)
 |.Call (.Name f _) [.Name x _] [⟨some kw,.Lambda params body scope _,_⟩] _=>if f=="min"&&kw=="key" then some (x,params,body,scope) else none
 |_=>none
theorem Dq{e:Expr}{c:Str×Arguments×Expr×Scope}(h:MX e=some c):∃q1 q2 q3 q4 q5,e=.Call (.Name "min" q1) [.Name c.1 q2] [⟨some "key",.Lambda c.2.1 c.2.2.1 c.2.2.2 q3,q4⟩] q5:=by
 cases e with
 |Call f args kI p=>
  cases f with
  |Name f fp=>
   cases args with
   |nil=>exact m6 h
   |cons a as=>
    cases a with
    |Name x xp=>
     cases as with
     |cons _ _=>exact m6 h
     |nil=>
      cases kI with
      |nil=>exact m6 h
      |cons k ks=>
       obtain⟨kn,kv,kp⟩:=k
       cases kn with
       |none=>exact m6 h
       |some kw=>
        cases kv with
        |Lambda params body scope lp=>
         cases ks with
         |cons _ _=>exact m6 h
         |nil=>
          have h:(if(f=="min"&&kw=="key")=true then some (x,params,body,scope) else none)=some c:=h
          split at h
          ·rename_i hc;rw [zza,beq_iff_eq,beq_iff_eq] at hc;obtain⟨rfl,rfl⟩:=hc
           cases h;exact⟨_,_,_,_,_,rfl⟩
          ·cases h
        |_=>exact m6 h
    |_=>exact m6 h
  |_=>exact m6 h
 |_=>exact m6 h
def tJ(x p:Str):Expr→Bool
 |.Subscript (.Subscript (.Name y _) (.Name q _) _) (.Constant (.int 0) _ _) _=>y==x&&q==p
 |_=>false
noncomputable def um(x:Str)(params:Arguments)(body:Expr)(scope:Scope):Bool:=match mZ params with
 |some [p]=>tJ x p body&&decide (bo scope=[x])&&Jy [p] scope&&okN p&&okN x
 |_=>false
theorem wI{x:Str}{params:Arguments}{body:Expr}{scope:Scope}(h:um x params body scope=true):∃p,mZ params=some [p]∧rD p x params body scope∧bo scope=[x]∧okN x=true:=by
 unfold um at h;split at h
 ·rename_i p e;simp only [zza,decide_eq_true_eq] at h;obtain⟨⟨⟨⟨h1,h2⟩,h3⟩,h4⟩,h5⟩:=h
  refine⟨p,e,⟨?_,by rw [←h2];exact xU h3,(dj h4).1,(dj h4).2.1,(dj h5).1,(dj h5).2.1⟩,h2,h5⟩;unfold tJ at h1;split at h1
  ·rw [zza,beq_iff_eq,beq_iff_eq] at h1;obtain⟨rfl,rfl⟩:=h1
   exact⟨_,_,_,_,_,_,rfl⟩
  ·cases h1
 ·cases h
def JC:List Expr→Option (Str×Expr)
 |[.Subscript (.Name x _) pk _]=>some (x,pk)
 |_=>none
def MW:Option Expr→Option (Str×Str)
 |some (.Call (.Name x _) [.Constant (.str z) _ _] [] _)=>some (x,z)
 |_=>none
theorem n5{ts:List Expr}{x:Str}(h:Gk ts=some x):∃xp,ts=[.Name x xp]:=by
 unfold Gk at h;split at h
 ·cases h;exact⟨_,rfl⟩
 ·cases h
theorem ja{ts:List Expr}{t:Expr}(h:vD ts=some t):ts=[t]:=by
 unfold vD at h;split at h
 ·cases h;rfl
 ·cases h
theorem rT{p:Expr}{x m:Str}{args:List Expr}(h:Ht p=some (x,m,args)):∃np apos bC,p=.Call (.Attribute (.Name x np) m apos) args [] bC∧(apos.endLine==bC.line)=true:=by
 unfold Ht at h;split at h
 ·split at h
  ·rename_i hl;cases h;exact⟨_,_,_,rfl,hl⟩
  ·cases h
 ·cases h
theorem yB{ts:List Expr}{x:Str}{pk:Expr}(h:JC ts=some (x,pk)):∃np sp,ts=[.Subscript (.Name x np) pk sp]:=by
 unfold JC at h;split at h
 ·cases h;exact⟨_,_,rfl⟩
 ·cases h
theorem F3{o:Option Expr}{x z:Str}(h:MW o=some (x,z)):∃np j zp cp,o=some (.Call (.Name x np) [.Constant (.str z) j zp] [] cp):=by
 cases o with
 |none=>exact m6 h
 |some e=>
  cases e with
  |Call f args kI p=>
   cases f with
   |Name f fp=>
    cases args with
    |nil=>exact m6 h
    |cons a as=>
     cases a with
     |Constant k j kp=>
      cases k with
      |str s=>
       cases as with
       |cons _ _=>exact m6 h
       |nil=>
        cases kI with
        |cons _ _=>exact m6 h
        |nil=>cases h;exact⟨_,_,_,_,rfl⟩
      |_=>exact m6 h
     |_=>exact m6 h
   |_=>exact m6 h
  |_=>exact m6 h
def IE:Expr→Option (List Expr)
 |.Tuple es _ _=>some es
 |_=>none
theorem BA{e:Expr}{es:List Expr}(h:IE e=some es):∃k p,e=.Tuple es k p:=by
 cases e with
 |Tuple es k p=>cases h;exact⟨_,_,rfl⟩
 |_=>exact m6 h
noncomputable def JW(N:List Str)(sc:Scope):List Nat→List Expr→Bool
 |i::is,a::as=>((zX a).any fun x=>N[i]?==some x&&dH sc x)&&JW N sc is as
 |[],[]=>true
 |_,_=>false
mutual
noncomputable def dO(Γ:Pg)(N:List Str)(sc:Scope):S→Stmt→Bool
 |.expr e,.Expr p _=>oy p&&aZ Γ N sc e p
 |.set i e,.Assign ts p _=>(Gk ts).any fun x=>N[i]?==some x&&dH sc x&&ff e&&aZ Γ N sc e p
 |.own i e,.Assign ts p _=>(Gk ts).any fun x=>N[i]?==some x&&dH sc x&&g6 e&&aZ Γ N sc e p
 |.app i e,.Expr v _=>(Ht v).any fun c=>N[i]?==some c.1&&dR sc c.1&&okN c.1&&c.2.1==("append":Str)&&ff e&&(vD c.2.2).any fun p=>aZ Γ N sc e p
 |.extd i e,.Expr v _=>(Ht v).any fun c=>N[i]?==some c.1&&dR sc c.1&&okN c.1&&c.2.1==("extend":Str)&&(vD c.2.2).any fun p=>aZ Γ N sc e p
 |.put i kk e,.Assign ts p _=>(JC ts).any fun c=>N[i]?==some c.1&&dR sc c.1&&okN c.1&&ff e&&aZ Γ N sc kk c.2&&aZ Γ N sc e p
 |.ret e,.Return (some p) _=>ff e&&aZ Γ N sc e p
 |.ite c a b,.If p pa pb _=>dI c&&aZ Γ N sc c p&&c5 Γ N sc a pa&&c5 Γ N sc b pb
 |.for_ tg it b,.For cy eG pb els _=>els.isEmpty&&fT N sc (fun _=>true) tg cy&&B3 it&&uU Γ N sc cy it eG&&c5 Γ N sc b pb
 |.whl c b,.While p pb els _=>els.isEmpty&&dI c&&aZ Γ N sc c p&&c5 Γ N sc b pb
 |.raise c m,.Raise ex fr _=>fr.isNone&&(MW ex).any fun q=>c==q.1&&m==q.2&&Γ.rs.contains c&&iM sc c&&okN c
 |.brk,.Break _=>true
 |.unl i j l e,.Assign ts p _=>(vD ts).any fun t=>(IE t).any fun es=>EH p&&ff e&&JW N sc [i,j,l] es&&aZ Γ N sc e p
 |.dnew i,.Assign ts (.Dict [] [] _) _=>(Gk ts).any fun x=>N[i]?==some x&&dH sc x
 |.putPop i j n,.Assign ts v _=>(JC ts).any fun c=>(zX c.2).any fun z=>N[i]?==some c.1&&dR sc c.1&&okN c.1&&N[n]?==some z&&dR sc z&&okN z&&(Ht v).any fun d=>d.2.1==("pop":Str)&&(vD d.2.2).any fun e=>(zX e).any fun z2=>z==z2&&N[j]?==some d.1&&dR sc d.1&&okN d.1
 |.minK m i,.Assign ts v _=>(Gk ts).any fun y=>(MX v).any fun c=>N[m]?==some y&&dH sc y&&N[i]?==some c.1&&sc.names.lookup c.1==some .cell&&iM sc "min"&&Γ.bs.contains "min"&&Γ.hl&&um c.1 c.2.1 c.2.2.1 c.2.2.2
 |_,_=>false
noncomputable def c5(Γ:Pg)(N:List Str)(sc:Scope):Ss→List Stmt→Bool
 |.nil,[]=>true
 |.cons (.frz _) ss,ps=>c5 Γ N sc ss ps
 |.cons s ss,p::ps=>dO Γ N sc s p&&c5 Γ N sc ss ps
 |_,_=>false
end
section
variable{Γ:Pg}{X:Cx}{W:Wd}{F:aV}{N:List Str}{sc:Scope}{k:Nat}{H0:Hp}{E:XK}
theorem SR.go{env:Sl}{σ:St}{G H:Hp}(r:SR W H0 env σ G H):aJ W G H0 G H:=⟨aF.refl _,r.base,r.sub,fun _ _ _ h=>h,fun _=>r.tab⟩
theorem aJ.then{G G1 H1 G2 H2:Hp}(a:aJ W G H0 G1 H1)(b:aJ W G1 H0 G2 H2):aJ W G H0 G2 H2:=⟨a.g.trans b.g,b.h,b.sub,fun x h1 h3 h2=>b.own x h1 h3 (a.own x h1 h3 h2),fun t=>b.tab (t.same a.g a.own fun _ _ h=>h)⟩
theorem SR.on{env:Sl}{σ:St}{G H G1 H1:Hp}(r:SR W H0 env σ G H)(g:aJ W G H G1 H1):aJ W G H0 G1 H1:=⟨g.g,r.base.trans g.h,g.sub,fun x h1 h3 h2=>g.own x (fun z=>h1 (r.base.free z)) (r.base.notup h1 h3) h2,fun _=>g.tab r.tab⟩
def Dn(W:Wd)(H0 G:Hp)(D:Ends):Fl→Prop
 |.nx env=>∀σ G' H',SR W H0 env σ G' H'→aJ W G H0 G' H'→D.nx σ H'
 |.bk env=>∀σ G' H',SR W H0 env σ G' H'→aJ W G H0 G' H'→D.bk σ H'
 |.ct env=>∀σ G' H',SR W H0 env σ G' H'→aJ W G H0 G' H'→D.ct σ H'
 |.rt p=>∀v G' H',Rep W G' p v→aJ W G H0 G' H'→D.rt v H'
def cm(W:Wd)(H0 G:Hp)(E:XK)(r:Res Fl)(D:Ends):Prop:=match r with
 |.ok f=>Dn W H0 G D f
 |.exc c=>∀Cv ao H',XE W c G H0 Cv ao H'→E Cv ao H'
 |.bad=>False
theorem Dn.on{G G1 H1:Hp}{D:Ends}{f:Fl}(h:Dn W H0 G D f)(g:aJ W G H0 G1 H1):Dn W H0 G1 D f:=by
 cases f with
 |nx env=>exact fun σ G' H' r g'=>h σ G' H' r (g.then g')
 |bk env=>exact fun σ G' H' r g'=>h σ G' H' r (g.then g')
 |ct env=>exact fun σ G' H' r g'=>h σ G' H' r (g.then g')
 |rt p=>exact fun v G' H' r g'=>h v G' H' r (g.then g')
theorem cm.on{G G1 H1:Hp}{D:Ends}{r:Res Fl}(h:cm W H0 G E r D)(g:aJ W G H0 G1 H1):cm W H0 G1 E r D:=by
 cases r with
 |ok f=>exact Dn.on h g
 |exc c=>
  intro Cv ao H' x;obtain⟨C,a,G',e1,e2,e3,e4,g2⟩:=x
  exact h Cv ao H' ⟨C,a,G',e1,e2,e3,e4,g.then g2⟩
 |bad=>exact h
noncomputable def tS(W:Wd)(F:aV)(H0:Hp)(E:XK)(s:S):TS:=fun D σ H=>∃G env,SR W H0 env σ G H∧cm W H0 G E (aL F s env) D
noncomputable def L6(W:Wd)(F:aV)(H0:Hp)(E:XK)(ss:Ss):TS:=fun D σ H=>∃G env,SR W H0 env σ G H∧cm W H0 G E (ah F ss env) D
abbrev GS(X:Cx)(W:Wd)(F:aV)(H0:Hp)(E:XK)(s:S)(p:Stmt):Prop:=PS X p (tS W F H0 E s)
abbrev zI(X:Cx)(W:Wd)(F:aV)(H0:Hp)(E:XK)(s:Ss)(p:List Stmt):Prop:=PSs X p (L6 W F H0 E s)
theorem _root_.L2.PS.imp{p:Stmt}{t t':TS}(h:PS X p t)(i:∀D σ H,t' D σ H→t D σ H):PS X p t':=fun pins s σ H D I hw=>h pins s σ H D I (i D σ H hw)
theorem _root_.L2.PSs.imp{p:List Stmt}{t t':TS}(h:PSs X p t)(i:∀D σ H,t' D σ H→t D σ H):PSs X p t':=fun pins s σ H D I hw=>h pins s σ H D I (i D σ H hw)
structure dJ(Γ:Pg)(F:aV)(W:Wd)(N:List Str)(sc:Scope)(k:Nat)(E:XK)(X:Cx):Prop where
 C:du Γ F W N sc k X
 fn:∀x,X.fn x=true
 own:PassesOwn (model X.prog X.w) X.A X.env X.xe
 pass:Passes (dy X.prog X.w) X E
 kind:sc.kind=.function
 stk:X.stack=X.env::X.outer
 frame:X.env.frame=some X.env.locals
 xs:∀c,Γ.rs.contains c=true→c∈W.xs
 rm:∀c,Γ.rs.contains c=true→∃C,X.mg c=some (.ref C)
 rz:∀(c z:Str) (j:Nat) (np zp cp pos:Pos),Γ.rs.contains c=true→iM sc c=true→okN c=true→PS X (.Raise (some (.Call (.Name c np) [.Constant (.str z) j zp] [] cp)) none pos) (fun _ _ H=>∀C e,X.mg c=some (.ref C)→H e=none→E (.ref C) (some e) H)
 exm:Γ.cs.contains "FloorError"=true→∀c D,c∈W.xs→X.mg c=some (.ref D)→∀T,X.mg "FloorError"=some (.ref T)→PySem.W.exmOne X.K (.ref D) (.ref T)=some true
theorem Af(S:dJ Γ F W N sc k E X){c:Str}{σ:St}{Gs G H:Hp}(g:aJ W Gs H0 G H)(h:∀Cv ao H',XE W c Gs H0 Cv ao H'→E Cv ao H'):rF X W σ c G H:=fun pins G1 H1 s1 e s' I g1 x=>
 S.pass pins σ H1 s1 e s' I (BX.imp x fun Cv a H' y=>h Cv a H' (by
  obtain⟨C,a',G',e1,e2,e3,e4,g2⟩:=y
  have g3:=g1.trans g2
  exact⟨C,a',G',e1,e2,e3,e4,g.g.trans g3.g,g.h.trans g3.h,g3.sub,fun x h1 h3 h2=>g3.own x (fun z=>h1 (g.h.free z)) (g.h.notup h1 h3) (g.own x h1 h3 h2),fun t=>g3.tab (g.tab t)⟩))
theorem cm.bind{α:Type}(S:dJ Γ F W N sc k E X){r:Res α}{f:α→Res Fl}{D:Ends}{env:Sl}{σ:St}{G H:Hp}(sr:SR W H0 env σ G H)(h:cm W H0 G E (r.bind f) D):Out X W r σ G H fun a=>cm W H0 G E (f a) D:=by
 cases r with
 |ok a=>exact h
 |exc c=>exact Af S sr.go h
 |bad=>exact h
theorem n6(S:dJ Γ F W N sc k E X){env:Sl}{σ:St}{G H:Hp}{e:Ci.E}{f:PV→Res Fl}{D:Ends}{Q:VK}(sr:SR W H0 env σ G H)(o:cm W H0 G E ((az F e env).bind f) D)
 (h:∀p v G1 H1,aJ W G H G1 H1→Got W H0 G1 H1 e p v→SR W H0 env σ G1 H1→cm W H0 G1 E (f p) D→Q v H1):tE X W F e σ H Q:=
 ⟨H0,G,env,sr,(o.bind S sr).imp fun p hp v G1 H1 g1 t=>h p v G1 H1 g1 t (sr.grow g1) (hp.on (sr.on g1))⟩
theorem CN(S:dJ Γ F W N sc k E X){env:Sl}{σ:St}{G H:Hp}{e:Ci.E}{f:Bool→Res Fl}{D:Ends}{Q:Bool→Hp→Prop}(sr:SR W H0 env σ G H)(o:cm W H0 G E ((az F e env).bind fun p=>qA p f) D)
 (h:∀b G1 H1,aJ W G H G1 H1→SR W H0 env σ G1 H1→cm W H0 G1 E (f b) D→Q b H1):tT X W F e σ H Q:=by
 refine⟨H0,G,env,sr,(o.bind S sr).imp fun p hp=>?_⟩
 cases p with
 |bl b=>exact⟨b,rfl,fun G1 H1 g1=>h b G1 H1 g1 (sr.grow g1) (cm.on hp (sr.on g1))⟩
 |non=>exact False.elim hp
 |int _=>exact False.elim hp
 |str _=>exact False.elim hp
 |tup _=>exact False.elim hp
 |lst _=>exact False.elim hp
 |exc _=>exact False.elim hp
 |dct _ _=>exact False.elim hp
theorem HR(S:dJ Γ F W N sc k E X){env:Sl}{σ:St}{G H:Hp}{e:Ci.E}{f:PV→Res Fl}{D:Ends}{Q:VK}(hl:∀env q,az F e env=.ok q→∃xs,q=.lst xs)(sr:SR W H0 env σ G H)(o:cm W H0 G E ((az F e env).bind f) D)
 (h:∀xs a vs G1 H1,aJ W G H G1 H1→H1 a=none→ak W G1 xs vs→SR W H0 env σ G1 H1→cm W H0 G1 E (f (.lst xs)) D→Q (.ref a) (upd H1 a (.lst vs))):tF X W F e σ H Q:=by
 refine⟨H0,G,env,sr,?_⟩;have o2:=o.bind S sr
 cases r:az F e env with
 |bad=>rw [r] at o2;exact o2
 |exc c=>rw [r] at o2;exact o2
 |ok q=>
  rw [r] at o2;obtain⟨xs,rfl⟩:=hl env q r
  exact⟨xs,rfl,fun a vs G' H' g ha l=>h xs a vs G' H' g ha l (sr.grow g) (cm.on o2 (sr.on g))⟩
end
end Ci
namespace Ci
open PySem L2
section
variable{Γ:Pg}{X:Cx}{W:Wd}{F:aV}{N:List Str}{sc:Scope}{k:Nat}{H0:Hp}{E:XK}
theorem mV{p:Expr}{t:Option Expr}{l:Nat}{env:Env}(h:oy p=true):swapsWith p t l env=pure false:=by
 cases p<;>first|rfl|(exact absurd h zzf)
theorem jh{elt:Expr}{gens:List Comprehension}{s:Scope}{p:Pos}{x:Str}{xp:Pos}{l:Nat}(hsc:X.env.scope=sc)(hk:sc.kind=.function):swapsWith (.ListComp elt gens s p) (some (.Name x xp)) l X.env=pure (KZ sc x xp (.ListComp elt gens s p)):=by
 have hb:X.env.blockKind=.function:=by
  unfold Env.blockKind;rw [hsc,hk]
  rfl
 show(pure (X.env.blockKind==.function&&X.env.kindOf x==some .local&&xp.line==p.line&&!(s.names.any fun(n,k)=>n==x&&(k==.local||k==.cell))):Sem Bool)=_
 rw [hb];show(pure (true&&X.env.scope.names.lookup x==some .local&&_&&_):Sem Bool)=_
 rw [hsc]
 rfl
theorem A6(S:dJ Γ F W N sc k E X){e:Ci.E}{p:Expr}{pos:Pos}(he:GE X W F e p)(hn:oy p=true):GS X W F H0 E (.expr e) (.Expr p pos):=
 L2.PS.imp (nH he (mV hn)) fun D σ H h=>by
  obtain⟨G,env,sr,o⟩:=h
  rw [aL] at o;exact n6 S sr o fun q v G1 H1 g t bL o1=>o1 σ G1 H1 bL bL.go
theorem Fi(S:dJ Γ F W N sc k E X){e:Ci.E}{p:Expr}{pos:Pos}(dk:ff e=true)(he:GE X W F e p):GS X W F H0 E (.ret e) (.Return (some p) pos):=
 L2.PS.imp (Ez he) fun D σ H h=>by
  obtain⟨G,env,sr,o⟩:=h
  rw [aL] at o;exact n6 S sr o fun q v G1 H1 g t bL o1=>o1 v G1 H1 (t.rep dk) bL.go
theorem E2{pos:Pos}:GS X W F H0 E .brk (.Break pos):=
 L2.PS.imp yw fun D σ H h=>by
  obtain⟨G,env,sr,o⟩:=h
  rw [aL] at o;exact o σ G H sr sr.go
theorem wF(S:dJ Γ F W N sc k E X){c m:Str}{j:Nat}{np zp cp pos:Pos}(h1:Γ.rs.contains c=true)(h2:iM sc c=true)(h3:okN c=true):GS X W F H0 E (.raise c m) (.Raise (some (.Call (.Name c np) [.Constant (.str m) j zp] [] cp)) none pos):=
 L2.PS.imp (S.rz c m j np zp cp pos h1 h2 h3) fun D σ H h C e hC he=>by
  obtain⟨G,env,sr,o⟩:=h
  rw [aL] at o;exact o _ _ _ ⟨C,e,G,rfl,rfl,S.xs c h1,by rw [S.C.mg];exact hC,sr.go⟩
theorem eF(S:dJ Γ F W N sc k E X){i:Nat}{x:Str}(h:N[i]?=some x)(hl:dH sc x=true):X.N.Nodup∧X.N[i]?=some x∧Loc X.env.scope x:=by
 refine⟨by rw [S.C.hN];exact S.C.nd,by rw [S.C.hN];exact h,qQ S.C.hsc hl⟩
theorem EU(S:dJ Γ F W N sc k E X){i:Nat}{x:Str}{e:Ci.E}{p:Expr}{xp pos:Pos}(h:N[i]?=some x)(hl:dH sc x=true)(dk:ff e=true)(he:GE X W F e p)(hs:swapsWith p (some (.Name x xp)) pos.line X.env=pure false):GS X W F H0 E (.set i e) (.Assign [.Name x xp] p pos):=by
 obtain⟨a1,a2,a3⟩:=eF S h hl
 refine L2.PS.imp (nq a1 a2 a3 he hs (.inl (S.fn x))) fun D σ H h=>?_
 obtain⟨G,env,sr,o⟩:=h
 rw [aL] at o;exact n6 S sr o fun q v G1 H1 g t bL o1=>o1 _ G1 H1 (bL.set i (t.rep dk)) bL.go
noncomputable def GC(X:Cx)(W:Wd)(F:aV)(i:Nat)(e:Ci.E):TS:=fun D σ H=>tF X W F e σ H fun v H1=>D.nx (σ.set i (some v)) H1
theorem Ha{e:Ci.E}(hl:∀env q,az F e env=.ok q→∃xs,q=.lst xs)(σ:St)(H:Hp)(Q:VK)(h:tE X W F e σ H Q):tF X W F e σ H Q:=by
 obtain⟨H0,G,env,sr,o⟩:=h
 refine⟨H0,G,env,sr,?_⟩;cases r:az F e env with
 |bad=>rw [r] at o;exact o
 |exc c=>rw [r] at o;exact o
 |ok q=>
  rw [r] at o;obtain⟨xs,rfl⟩:=hl env q r
  exact⟨xs,rfl,fun a vs G' H' g ha l=>o _ _ _ (g.trans (.new g.sub ha)) (.of (.l (.inl (.inl av)) (ak.same (bD (g.sub.free ha)) xs l)))⟩
theorem zQ(S:dJ Γ F W N sc k E X){i:Nat}{e:Ci.E}{p:Stmt}(hl:∀env q,az F e env=.ok q→∃xs,q=.lst xs)(dk:ff e=true)(h:PS X p (GC X W F i e)):GS X W F H0 E (.set i e) p:=
 L2.PS.imp h fun D σ H hq=>by
  obtain⟨G,env,sr,o⟩:=hq
  rw [aL] at o;refine Ha hl σ H _ (n6 S sr o fun q v G1 H1 g t bL o1=>?_);exact o1 _ G1 H1 (bL.set i (t.rep dk)) bL.go
theorem AD(S:dJ Γ F W N sc k E X){i:Nat}{x:Str}{e:Ci.E}{p:Stmt}(hi:N[i]?=some x)(hl:∀env q,az F e env=.ok q→∃xs,q=.lst xs)(h:PS X p (GC X W F i e)):GS X W F H0 E (.own i e) p:=by
 intro pins s σ H D I hq;have LM:i<σ.length:=by rw [I.len,S.C.hN];exact(List.getElem?_eq_some_iff.mp hi).1
 refine h pins s σ H D I ?_;obtain⟨G,env,sr,o⟩:=hq
 rw [aL] at o;refine HR S hl sr o fun xs a vs G1 H1 g ha l bL o1=>?_
 have hO:Own W H0 G1 (upd H1 a (.lst vs)) (.lst xs) (.ref a):=⟨a,vs,rfl,av,bL.sub.free ha,bL.base.free ha,l⟩
 obtain⟨r2,g2⟩:=yh bL bL.go (i:=i) (by rw [bL.len];exact LM) ha hO
 exact o1 _ G1 _ r2 g2
theorem nO{i:Nat}{x:Str}{e:Ci.E}{p:Expr}{xp pos:Pos}(S:dJ Γ F W N sc k E X)(h:N[i]?=some x)(hl:dH sc x=true)(he:GF X W F e p)(hs:swapsWith p (some (.Name x xp)) pos.line X.env=pure false):PS X (.Assign [.Name x xp] p pos) (GC X W F i e):=by
 obtain⟨a1,a2,a3⟩:=eF S h hl
 exact nq a1 a2 a3 he hs (.inl (S.fn x))
theorem ym(S:dJ Γ F W N sc k E X){i:Nat}{x:Str}{xp fc:Pos}(hx:N[i]?=some x)(AV:dH sc x=true){kk:Nat}{ba:List Nat}{tg:Tg}{it:I}{elt:Ci.E}{cy eG dq:Expr}{scope:Scope}{pos:Pos}(h:j3 N sc scope kk ba (aO cy))(cq:jX kk tg=true)(dk:ff elt=true)(hi:GI X W F cy it eG)(hfs:∀x,foldedSetIterable eG X.env x=pure x)
 (yy:fT (aO cy++freeOf scope) (cW scope sc) (jY scope) tg cy=true) (he:∀Y,du Γ.nol F W (aO cy++freeOf scope) (cW scope sc) k Y→GE Y W F elt dq):PS X (.Assign [.Name x xp] (.ListComp dq [⟨cy,eG,[],0⟩] scope pos) fc) (GC X W F i (.comp kk ba tg it elt)):=by
 obtain⟨a1,a2,a3⟩:=eF S hx AV
 cases v5:KZ sc x xp (.ListComp dq [⟨cy,eG,[],0⟩] scope pos) with
 |false=>exact nO S hx AV (sX S.C h cq dk hi hfs yy he) (by rw [jh S.C.hsc S.kind,v5])
 |true=>
  intro pins s σ H D I hq;have Eo:(freeOf scope).Nodup:=(List.nodup_append.mp h.nd).2.1
  have rd:=sZ (N:=N) S.C.K cq dk h.slots Eo σ H _ hq
  have:=qO (g:=gT X.K tg) (te:=tN W F elt) (xs:=aO cy) (ys:=freeOf scope) (is:=ba) (pos:=pos) a1 a2 a3 S.C.calm (nN S.C.hN S.C.hsc I.ok h) hi
   (fun fp s1 H1 A=>y8 (fn:=jY scope) (X:=bW X (aO cy++freeOf scope) scope (bJ X.env (freeOf scope)) fp s1 H1 A) rfl h.nd (ei S.C.hsc) rfl (fun _ z=>z) yy)
   (fun fp s1 H1 A=>L2.PE.imp (he _ (en S.C h fp s1 H1 A)) fun σ H Q z=>tm σ H Q z) (by rw [jh (l:=fc.line) S.C.hsc S.kind,v5]) hfs (.inl (S.fn x)) pins s σ H D I
  rw [h.len] at this;exact this rd
theorem sk(S:dJ Γ F W N sc k E X){i:Nat}{x:Str}{xp fc:Pos}(hx:N[i]?=some x)(AV:dH sc x=true){kk:Nat}{ba:List Nat}{tg:Tg}{it:I}{c elt:Ci.E}{cy eG pc dq:Expr}{scope:Scope}{pos:Pos}(h:j3 N sc scope kk ba (aO cy))(cq:jX kk tg=true)(dk:ff elt=true)(hi:GI X W F cy it eG)(hfs:∀x,foldedSetIterable eG X.env x=pure x)
 (yy:fT (aO cy++freeOf scope) (cW scope sc) (jY scope) tg cy=true) (hc:∀Y,du Γ.nol F W (aO cy++freeOf scope) (cW scope sc) k Y→GT Y W F c pc) (he:∀Y,du Γ.nol F W (aO cy++freeOf scope) (cW scope sc) k Y→GE Y W F elt dq):PS X (.Assign [.Name x xp] (.ListComp dq [⟨cy,eG,[pc],0⟩] scope pos) fc) (GC X W F i (.compIf kk ba tg it c elt)):=by
 obtain⟨a1,a2,a3⟩:=eF S hx AV
 cases v5:KZ sc x xp (.ListComp dq [⟨cy,eG,[pc],0⟩] scope pos) with
 |false=>exact nO S hx AV (lK S.C h cq dk hi hfs yy hc he) (by rw [jh S.C.hsc S.kind,v5])
 |true=>
  intro pins s σ H D I hq;have Eo:(freeOf scope).Nodup:=(List.nodup_append.mp h.nd).2.1
  have rd:=lU (N:=N) S.C.K cq dk h.slots Eo σ H _ hq
  have:=mQ (g:=gT X.K tg) (tt:=Jg W F c) (te:=tN W F elt) (xs:=aO cy) (ys:=freeOf scope) (is:=ba) (pos:=pos) a1 a2 a3 S.C.calm (nN S.C.hN S.C.hsc I.ok h) hi
   (fun fp s1 H1 A=>y8 (fn:=jY scope) (X:=bW X (aO cy++freeOf scope) scope (bJ X.env (freeOf scope)) fp s1 H1 A) rfl h.nd (ei S.C.hsc) rfl (fun _ z=>z) yy)
   (fun fp s1 H1 A=>L2.PT.imp (hc _ (en S.C h fp s1 H1 A)) fun σ H Q z=>xI σ H Q z)
   (fun fp s1 H1 A=>L2.PE.imp (he _ (en S.C h fp s1 H1 A)) fun σ H Q z=>tm σ H Q z) (by rw [jh (l:=fc.line) S.C.hsc S.kind,v5]) hfs (.inl (S.fn x)) pins s σ H D I
  rw [h.len] at this;exact this rd
theorem vz{tg:Tg}{p:PV}{env:Sl}(c:Str):Tg.put tg p env≠.exc c:=by
 unfold Tg.put;split<;>exact fun z=>nomatch z
theorem DJ(S:dJ Γ F W N sc k E X){c:Ci.E}{a b:Ss}{p:Expr}{pa pb:List Stmt}{pos:Pos}(hc:GT X W F c p)(ha:zI X W F H0 E a pa)(hb:zI X W F H0 E b pb):GS X W F H0 E (.ite c a b) (.If p pa pb pos):=
 L2.PS.imp (IF hc ha hb) fun D σ H h=>by
  obtain⟨G,env,sr,o⟩:=h
  rw [aL] at o;refine CN S sr o fun t G1 H1 g bL o1=>?_
  cases t with
  |true=>
   rw [if_pos rfl] at o1⊢;exact⟨G1,env,bL,o1⟩
  |false=>
   rw [if_neg zzf] at o1⊢;exact⟨G1,env,bL,o1⟩
theorem DB(S:dJ Γ F W N sc k E X){c:Ci.E}{b:Ss}{p:Expr}{pb:List Stmt}{pos:Pos}(hc:GT X W F c p)(hb:zI X W F H0 E b pb):GS X W F H0 E (.whl c b) (.While p pb [] pos):=
 L2.PS.imp (yF S.own hc hb) fun D σ H h=>by
  obtain⟨G,env,sr,o⟩:=h
  rw [aL] at o;refine⟨fun m σ' H'=>∃G' aE,SR W H0 aE σ' G' H'∧aJ W G H0 G' H'∧cm W H0 G' E (cX (az F c) (ah F b) m aE) D,⟨_,G,env,sr,sr.go,o⟩,?_⟩
  rintro m σ' H' ⟨G',aE,sr',g',o'⟩
  cases m with
  |zero=>exact o'.elim
  |succ m=>
   unfold cX at o';refine CN S sr' o' fun t G1 H1 g1 bL o1=>?_
   cases t with
   |false=>
    rw [if_neg zzf] at o1⊢;exact o1 σ' G1 H1 bL bL.go
   |true=>
    rw [if_pos rfl] at o1⊢;refine⟨fun σ2 H2=>∃G2 dS,SR W H0 dS σ2 G2 H2∧aJ W G H0 G2 H2∧cm W H0 G2 E (cX (az F c) (ah F b) m dS) D,fun σ2 H2 h2=>⟨m,Nat.lt_succ_self _,h2⟩,G1,aE,bL,?_⟩
    have gg:=g'.then (sr'.on g1)
    cases r:ah F b aE with
    |bad=>rw [r] at o1;exact o1.elim
    |exc cc=>rw [r] at o1;exact o1
    |ok f=>
     rw [r] at o1;cases f with
     |nx dS=>exact fun σ2 G2 H2 eO g2=>⟨G2,dS,eO,gg.then g2,cm.on (show cm W H0 G1 E (cX (az F c) (ah F b) m dS) D from o1) g2⟩
     |ct dS=>exact fun σ2 G2 H2 eO g2=>⟨G2,dS,eO,gg.then g2,cm.on (show cm W H0 G1 E (cX (az F c) (ah F b) m dS) D from o1) g2⟩
     |bk dS=>exact fun σ2 G2 H2 eO g2=>o1 σ2 G2 H2 eO g2
     |rt q=>exact fun v G2 H2 rv g2=>o1 v G2 H2 rv g2
theorem DH(S:dJ Γ F W N sc k E X){tg:Tg}{it:I}{b:Ss}{cy eG:Expr}{pb:List Stmt}{pos:Pos}(yy:fT N sc (fun _=>true) tg cy=true)(hit:B3 it=true)(hi:GI X W F cy it eG)(hfs:∀x,foldedSetIterable eG X.env x=pure x)(hb:zI X W F H0 E b pb):GS X W F H0 E (.for_ tg it b) (.For cy eG pb [] pos):=
 L2.PS.imp (Fx S.own S.C.calm hi (y8 (fn:=fun _=>true) S.C.hN S.C.nd S.C.hsc S.C.calm (fun x _=>S.fn x) yy) hb hfs) fun D σ H h=>by
  obtain⟨G,env,sr,o⟩:=h
  rw [aL] at o;refine⟨H0,G,env,sr,(o.bind S sr).imp fun ps i6 J G1 H1 g1 gi=>?_⟩
  have frz:=gi.frz hit
  generalize hf:(fun(x:PV) (env:Sl)=>(tg.put x env).bind fun aE=>ah F b aE)=f at i6
  have bL:=sr.grow g1
  refine⟨fun i m σ' H'=>i≤ps.length∧m=ps.length-i∧∃G' aE,SR W H0 aE σ' G' H'∧aJ W G1 H0 G' H'∧cm W H0 G' E (forL f (ps.drop i) aE) D,⟨_,Nat.zero_le _,rfl,G1,env,bL,bL.go,by rw [List.drop_zero];exact cm.on i6 (sr.on g1)⟩,?_⟩
  rintro i m σ' H' ⟨Hc,hm,G',aE,sr',g',o'⟩
  obtain⟨ist,igo⟩:=frz i G' H' g'.g (.of (g'.g.trans sr'.sub)) sr'.sub
  by_cases hlast:i=ps.length
  ·refine .inl ⟨ist hlast,?_⟩;rw [hlast,List.drop_length] at o';exact o' σ' G' H' sr' sr'.go
  ·have cq:i<ps.length:=by omega
   obtain⟨hgo,hyld⟩:=igo ps[i] (zzg cq)
   refine .inr ⟨hgo,fun σ2 H2=>i+1≤ps.length∧∃G2 dS,SR W H0 dS σ2 G2 H2∧aJ W G1 H0 G2 H2∧cm W H0 G2 E (forL f (ps.drop (i+1)) dS) D,fun σ2 H2 h2=>⟨ps.length-(i+1),by omega,h2.1,rfl,h2.2⟩,fun x k8 hy=>?_⟩
   obtain⟨tO,g'',rx⟩:=hyld x k8 hy
   rw [List.drop_eq_getElem_cons cq] at o';unfold forL at o';have Ni:f ps[i] aE=(tg.put ps[i] aE).bind fun aE=>ah F b aE:=by rw [←hf]
   rw [Ni] at o';have eO:=sr'.grow g''
   have g2:=g'.then (sr'.on g'')
   cases r:tg.put ps[i] aE with
   |bad=>rw [r] at o';exact o'.elim
   |exc c=>exact absurd r (vz c)
   |ok dS=>
    rw [r] at o';refine qR S.C.K r eO rx fun σ2 sr3=>⟨tO,dS,sr3,?_⟩
    have o2:cm W H0 tO E ((ah F b dS).bind fun fl=>match fl with
     |.nx aE=>forL f (ps.drop (i+1)) aE
     |.ct aE=>forL f (ps.drop (i+1)) aE
     |.bk aE=>.ok (.nx aE)
     |.rt p=>.ok (.rt p)) D:=cm.on o' (sr'.on g'')
    cases r2:ah F b dS with
    |bad=>rw [r2] at o2;exact o2.elim
    |exc cc=>rw [r2] at o2;exact o2
    |ok fl=>
     rw [r2] at o2;cases fl with
     |nx env3=>exact fun σ3 G3 H3 F9 g3=>⟨cq,G3,env3,F9,g2.then g3,cm.on (show cm W H0 tO E (forL f (ps.drop (i+1)) env3) D from o2) g3⟩
     |ct env3=>exact fun σ3 G3 H3 F9 g3=>⟨cq,G3,env3,F9,g2.then g3,cm.on (show cm W H0 tO E (forL f (ps.drop (i+1)) env3) D from o2) g3⟩
     |bk env3=>exact fun σ3 G3 H3 F9 g3=>o2 σ3 G3 H3 F9 g3
     |rt q=>exact fun v G3 H3 rv g3=>o2 v G3 H3 rv g3
theorem BJ:zI X W F H0 E .nil []:=L2.PSs.imp AL fun D σ H h=>by
 obtain⟨G,env,sr,o⟩:=h
 rw [ah] at o;exact o σ G H sr sr.go
theorem yr{s:Ci.S}{ss:Ss}{p:Stmt}{ps:List Stmt}(h1:GS X W F H0 E s p)(h2:zI X W F H0 E ss ps):zI X W F H0 E (.cons s ss) (p::ps):=
 L2.PSs.imp (xu h1 h2) fun D σ H h=>by
  obtain⟨G,env,sr,o⟩:=h
  rw [ah] at o;refine⟨G,env,sr,?_⟩;cases r:aL F s env with
  |bad=>rw [r] at o;exact o
  |exc c=>rw [r] at o;exact o
  |ok f=>
   rw [r] at o;cases f with
   |nx dS=>exact fun σ2 G2 H2 eO g2=>⟨G2,dS,eO,cm.on (show cm W H0 G E (ah F ss dS) D from o) g2⟩
   |bk dS=>exact o
   |ct dS=>exact o
   |rt q=>exact o
theorem Aj{i:Nat}{ss:Ss}{ps:List Stmt}(h:zI X W F H0 E ss ps):zI X W F H0 E (.cons (.frz i) ss) ps:=by
 intro pins s σ H D I hq;obtain⟨G,env,sr,o⟩:=hq
 rw [ah,aL] at o;rcases Ed sr sr.go i with⟨G',sr',g'⟩|⟨a,aB,ha,k⟩
 ·exact h pins s σ H D I ⟨G',_,sr',cm.on (show cm W H0 G E (ah F ss (env.modify i nt)) D from o) g'⟩
 ·obtain⟨ob,J⟩:=I.freeze ha
  obtain⟨G',sr',g'⟩:=k ob
  exact h pins s σ _ D J ⟨G',_,sr',cm.on (show cm W H0 G E (ah F ss (env.modify i nt)) D from o) g'⟩
end
end Ci
namespace L2
open PySem PySem.Spec PyProof.Rows
end L2
namespace Ci
open PySem L2
section
variable{Γ:Pg}{X:Cx}{W:Wd}{F:aV}{N:List Str}{sc:Scope}{k:Nat}{H0:Hp}{E:XK}
theorem se(hK:W.K=X.K):K1 X "list.extend" (fun x vs H Q=>∃l b xs zs,x=.ref l∧vs=[.ref b]∧H l=some (.lst xs)∧LsR W.K H b zs∧xs.length+zs.length≤sizeLine∧Q .non (upd H l (.lst (xs++zs)))):=by
 intro pins s σ H x vs v us Q I rx rv h;obtain⟨l,b,xs,zs,rfl,rfl,hH,hB,hz,q⟩:=h
 cases rx;obtain⟨u,rfl,ru⟩:=Vals.one rv
 cases ru;obtain⟨z,aD,n,r,hl,e⟩:=I.lstM hH
 obtain⟨aK,n2,r2,MD,z2,e2⟩:=Hx hK I hB
 have hsz:aD.toArray.size+aK.toArray.size≤sizeLine:=by rw [List.size_toArray,List.size_toArray];omega
 have IX:¬(!aD.toArray.isEmpty&&Builtin.List.listTooLong (aD.toArray.size+aK.toArray.size))=true:=by
  rw [xT hsz,Bool.and_false];exact zzf
 refine PySem.call_meets PySem.F.slot_list_extend ⟨_,e,rfl⟩ PySem.F.entry_list_extend (PySem.F.args_list_extend_2 _ _)
  (PySem.AutoSeq1.list_extend_list_list_0 l aD.toArray n b aK.toArray n2 IX (by rw [List.size_toArray];omega) (by omega)) ⟨e,e2,?_⟩
 refine⟨.non,_,I.lset (its':=aD++aK) hH e (by simp) (r.append r2) ?_,rfl,q⟩;rw [List.length_append];omega
theorem gF(S:dJ Γ F W N sc k E X){i:Nat}{x:Str}{pos:Pos}(h:N[i]?=some x)(hv:dR sc x=true)(ho:okN x=true):PE X (.Name x pos) (yt i):=
 eQ (by rw [S.C.hN];exact h) (mU S.C hv) (dj ho).1 (dj ho).2.1
theorem t9{env:Sl}{σ:St}{G H:Hp}{i:Nat}{xs:List PV}(sr:SR W H0 env σ G H)(h:env[i]?=some (.own (.lst xs))):∃a vs,σ[i]?=some (some (.ref a))∧H a=some (.lst vs)∧G a=none∧H0 a=none∧ak W G xs vs:=by
 obtain⟨o,ho,v,rfl,a,vs,rfl,h1,h2,h3,l⟩:=sr.slot i _ h
 exact⟨a,vs,ho,h1,h2,h3,l⟩
theorem Ex(S:dJ Γ F W N sc k E X){i:Nat}{x:Str}{e:Ci.E}{p:Expr}{np apos bC pos:Pos}(h:N[i]?=some x)(hv:dR sc x=true)(ho:okN x=true)(ik:(apos.endLine==bC.line)=true)(dk:ff e=true)(he:GE X W F e p)
 (dm:∀env ps,starEach (p::ps) env=(false,eval p env)::starEach ps env):GS X W F H0 E (.app i e) (.Expr (.Call (.Attribute (.Name x np) "append" apos) [p] [] bC) pos):=by
 refine L2.PS.imp (nH (xh PySem.F.plainAttrs_list PySem.F.slot_list_append PySem.F.type_list_append uO (gF S h hv ho) (cI he d7 (dm _ _)) rfl (by rw [dm];rfl) ik (dm _ _) rfl) rfl) fun D σ H hq=>?_
 obtain⟨G,env,sr,o⟩:=hq
 rw [aL] at o;split at o
 ·rename_i xs hx;obtain⟨a,vs,hs,h1,h2,h3,l⟩:=t9 sr hx
  refine⟨.ref a,hs,.inl ⟨rfl,_,gk.of h1⟩,n6 S sr o fun q v G1 H1 g t bL o1=>?_⟩
  split at o1
  ·rename_i hl;have oz:=g.h.at h1 (fun _ z=>nomatch z)
   have qD:=g.own a (by rw [h1];exact fun z=>nomatch z) (by rw [h1];exact fun _ z=>nomatch z) h2
   have l':=ak.same g.g xs l
   refine⟨a,vs,v,rfl,rfl,oz,by rw [l.length];exact Nat.lt_of_lt_of_le hl (by decide),?_⟩;obtain⟨r2,g2⟩:=jo (p':=.lst (xs++[q])) (ob:=.lst (vs++[v])) bL bL.go hx hs qD h3 ⟨a,_,rfl,av,qD,h3,l'.append (.cons (t.rep dk) .nil)⟩
   exact o1 _ G1 _ r2 g2
  ·exact o1.elim
 ·exact o.elim
theorem AX(S:dJ Γ F W N sc k E X){i:Nat}{x:Str}{e:Ci.E}{p:Expr}{np apos bC pos:Pos}(h:N[i]?=some x)(hv:dR sc x=true)(ho:okN x=true)(ik:(apos.endLine==bC.line)=true)(he:GE X W F e p)
 (dm:∀env ps,starEach (p::ps) env=(false,eval p env)::starEach ps env):GS X W F H0 E (.extd i e) (.Expr (.Call (.Attribute (.Name x np) "extend" apos) [p] [] bC) pos):=by
 refine L2.PS.imp (nH (xh PySem.F.plainAttrs_list PySem.F.slot_list_extend PySem.F.type_list_extend (se S.C.K) (gF S h hv ho) (cI he d7 (dm _ _)) rfl (by rw [dm];rfl) ik (dm _ _) rfl) rfl) fun D σ H hq=>?_
 obtain⟨G,env,sr,o⟩:=hq
 rw [aL] at o;split at o
 ·rename_i xs hx;obtain⟨a,vs,hs,h1,h2,h3,l⟩:=t9 sr hx
  refine⟨.ref a,hs,.inl ⟨rfl,_,gk.of h1⟩,n6 S sr o fun q v G1 H1 g t bL o1=>?_⟩
  split at o1
  ·rename_i ys;split at o1
   ·rename_i hl;have oz:=g.h.at h1 (fun _ z=>nomatch z)
    have qD:=g.own a (by rw [h1];exact fun z=>nomatch z) (by rw [h1];exact fun _ z=>nomatch z) h2
    have l':=ak.same g.g xs l
    obtain⟨b,us,rfl,hb,lb⟩:=t.top.lst bL.sub
    refine⟨a,b,vs,us,rfl,rfl,oz,hb,by rw [l.length,lb.length];exact jy hl,?_⟩;obtain⟨r2,g2⟩:=jo (p':=.lst (xs++ys)) (ob:=.lst (vs++us)) bL bL.go hx hs qD h3 ⟨a,_,rfl,av,qD,h3,l'.append lb⟩
    exact o1 _ G1 _ r2 g2
   ·exact o1.elim
  ·exact o1.elim
 ·exact o.elim
def HI:V→V→V→Hp→(Hp→Prop)→Prop:=fun o i v H Q=>∃a H',o=.ref a∧vF H a i v H'∧Q H'
theorem uB(hu:X.A.units+1<cLine):IJ X HI:=by
 intro pins s σ H o i v ov iv u Q I ro ri rv h;obtain⟨a,H',rfl,g,q⟩:=h
 cases ro;exact uT hu I g ri rv fun s' I'=>⟨H',I',q⟩
theorem ie{env:Sl}{σ:St}{G H:Hp}{i:Nat}{ks:List (List Int)}{ps:List PV}(sr:SR W H0 env σ G H)(h:env[i]?=some (.own (.dct ks ps))):∃a us,σ[i]?=some (some (.ref a))∧ks.length=us.length∧H a=some (.dT (kz ks us))∧G a=none∧H0 a=none∧ak W G ps us:=by
 obtain⟨o,ho,v,rfl,a,us,rfl,n,h1,h2,h3,l⟩:=sr.slot i _ h
 exact⟨a,us,ho,n,h1,h2,h3,l⟩
theorem FA(S:dJ Γ F W N sc k E X){i:Nat}{x:Str}{kk e:Ci.E}{pk p:Expr}{np fc pos:Pos}(h:N[i]?=some x)(hv:dR sc x=true)(ho:okN x=true)(dk:ff e=true)(M7:aZ Γ N sc kk pk=true)(hk:GE X W F kk pk)(he:GE X W F e p):GS X W F H0 E (.put i kk e) (.Assign [.Subscript (.Name x np) pk fc] p pos):=by
 have v5:swappedStores [.Subscript (.Name x np) pk fc] p X.env=pure none:=by cases p<;>rfl
 have ha:∀v,assign (.Subscript (.Name x np) pk fc) X.env v=(do
  let ov←holding [v] (eval (.Name x np) X.env)
  let iv←holding [v,ov] (eval pk X.env)
  standAt fc
  holding [v,ov,iv] (setItem ov iv v)
  release [v,ov,iv] []):=by
  intro v;cases pk<;>first|rfl|(cases kk<;>first|(exact absurd M7 zzf)|(rename_i q;cases q<;>exact absurd M7 zzf))
 refine L2.PS.imp (qX he (xb (gF S h hv ho) hk (uB (by have:=S.C.room.un;omega)) ha) (by cases p<;>rfl) v5) fun D σ H hq=>?_
 obtain⟨G,env,sr,o⟩:=hq
 rw [aL] at o;refine n6 S sr o fun q v G1 H1 g t bL o1=>?_
 split at o1
 ·rename_i ks ps hx;obtain⟨a,us,hs,n,h1,h2,h3,l⟩:=ie bL hx
  refine⟨.ref a,hs,n6 S bL o1 fun q2 v2 G2 H2 g2 t2 eO o2=>?_⟩
  split at o2
  ·rename_i kk EB;split at o2
   ·rename_i vf;have e2:=fU EB
    subst e2;obtain⟨b,rfl,hb⟩:=t2.top.tupI (ns:=kk) eO.sub rfl
    have oz:=g2.h.at h1 (fun _ z=>nomatch z)
    have qD:=g2.own a (by rw [h1];exact fun z=>nomatch z) (by rw [h1];exact fun _ z=>nomatch z) h2
    have l':=ak.same g2.g ps l
    refine⟨a,upd H2 a (.dT (putK (kz ks us) (ki kk) v)),rfl,vF.t oz (by rw [nX];exact eO.sub _ _ hb) (by rw [eK n];exact Nat.lt_of_lt_of_le vf (by decide)),?_⟩;rw [rV n];obtain⟨r2,gg⟩:=jo (p':=.dct (bE ks kk) (bB ks ps kk q)) (ob:=.dT (kz (bE ks kk) (bB ks us kk v))) eO eO.go hx hs qD h3 ⟨a,_,rfl,j4 n kk v,av,qD,h3,m8 l' (Rep.same g2.g q (t.rep dk))⟩
    exact o2 _ G2 _ r2 gg
   ·exact o2.elim
  ·exact o2.elim
 ·exact o1.elim
theorem BV(S:dJ Γ F W N sc k E X){i:Nat}{x:Str}{np dp pos:Pos}(h:N[i]?=some x)(hl:dH sc x=true):GS X W F H0 E (.dnew i) (.Assign [.Name x np] (.Dict [] [] dp) pos):=by
 obtain⟨a1,a2,a3⟩:=eF S h hl
 intro pins s σ H D I hq;have LM:i<σ.length:=by rw [I.len,S.C.hN];exact(List.getElem?_eq_some_iff.mp h).1
 refine nq a1 a2 a3 xr rfl (.inl (S.fn x)) pins s σ H D I ?_;obtain⟨G,env,sr,o⟩:=hq
 rw [aL] at o;intro p hp;obtain⟨r2,g2⟩:=yh (i:=i) (p:=.dct [] []) (ob:=.dT []) sr sr.go (by rw [sr.len];exact LM) hp ⟨p,[],rfl,rfl,av,sr.sub.free hp,sr.base.free hp,.nil⟩
 exact o _ G _ r2 g2
theorem uN(S:dJ Γ F W N sc k E X){i j n:Nat}{x y z:Str}{np zp fc yp apos Mp bC pos:Pos}(h:N[i]?=some x)(hv:dR sc x=true)(ho:okN x=true)(hz:N[n]?=some z)(MP:dR sc z=true)(Mi:okN z=true)(hy:N[j]?=some y)(N6:dR sc y=true)(O2:okN y=true)
 (ik:(apos.endLine==bC.line)=true):GS X W F H0 E (.putPop i j n) (.Assign [.Subscript (.Name x np) (.Name z zp) fc] (.Call (.Attribute (.Name y yp) "pop" apos) [.Name z Mp] [] bC) pos):=by
 have hu:X.A.units+1<cLine:=by have:=S.C.room.un;omega
 refine L2.PS.imp (qX (A8 hu (gF S hy N6 O2) (gF S hz MP Mi) ⟨rfl,rfl,ik,rfl⟩) (xb (gF S h hv ho) (gF S hz MP Mi) (uB hu) fun _=>rfl) (by unfold swapsWithSole;exact mV rfl) rfl) fun D σ H hq=>?_
 obtain⟨G,env,sr,o⟩:=hq
 rw [aL] at o;split at o
 ·rename_i ks ps ks2 ps2 kp e1 e2 e3;split at o
  ·rename_i kk EB;split at o
   ·rename_i p hp;split at o
    ·rename_i vf;have ek:=fU EB
     subst ek;obtain⟨a,us,hs,nn,h1,h2,h3,l⟩:=ie sr e1
     obtain⟨ok,hk1,v,rfl,rv⟩:=sr.slot n _ e3
     obtain⟨b,rfl,hb⟩:=sV rv
     obtain⟨w,hw,kw⟩:=oE l hp
     refine⟨.ref a,hs,a,rfl,.inr ⟨_,.inl h1⟩,.ref b,hk1,_,ki kk,b,w,h1,rfl,(by rw [nX];exact sr.sub _ _ hb),(by rw [gG];exact hw),?_⟩;rw [sJ kk nn];obtain⟨r1,g1⟩:=jo (p':=.dct (bU ks kk) (aW ks ps kk)) (ob:=.dT (kz (bU ks kk) (aW ks us kk))) sr sr.go e1 hs h2 h3 ⟨a,_,rfl,o8 kk nn,av,h2,h3,jr l⟩
     have Mk:(env.set j (.own (.dct (bU ks kk) (aW ks ps kk))))[i]?=some (.own (.dct ks2 ps2)):=by rw [List.getElem?_set_ne (Ne.symm vf.2)];exact e2
     obtain⟨a2,us2,uf,n2,k1,k2,k3,l2⟩:=ie r1 Mk
     refine⟨.ref a2,uf,.ref b,hk1,a2,_,rfl,vF.t k1 (by rw [nX];exact r1.sub _ _ hb) (by rw [eK n2];exact Nat.lt_of_lt_of_le vf.1 (by decide)),?_⟩;rw [rV n2];obtain⟨r2,g2⟩:=jo (p':=.dct (bE ks2 kk) (bB ks2 ps2 kk p)) (ob:=.dT (kz (bE ks2 kk) (bB ks2 us2 kk w))) r1 g1 Mk uf k2 k3 ⟨a2,_,rfl,j4 n2 kk w,av,k2,k3,m8 l2 kw⟩
     exact o _ G _ r2 g2
    ·exact o.elim
   ·exact o.elim
  ·exact o.elim
 ·exact o.elim
end
end Ci
namespace L2
open PySem PySem.Spec PyProof.Rows
section
variable{prog:Program}{w:World}{A:Around}{E:Value→Shared→Prop}
theorem mw{I:Addr}{fp wr:List Addr}{n:Nat}{P:Nat→Value→Prop}{S:Nat→Heap→Prop}(W:Walks prog w A I fp wr n P S):∀(k i:Nat) (s:Shared) (Q:List Value→Shared→Prop),i+k≤n→S i s.heap→
 (∀h' tk xs,xs.length=k→(∀j v,xs[j]?=some v→P (i+j) v)→S (i+k) h'→(∀b o,b∉wr→s.heap.get? b=some o→h'.get? b=some o)→Q xs {s with heap:=h',toks:=tk})→wpAny (model prog w) A (draw (.ref I) k) Q E s
 |0,i,s,Q,_,st,hQ=>by
  show wpAny _ _ (pure []) Q E s
  exact wpAny_pure (hQ s.heap s.toks [] rfl (fun j v h=>by cases h) st fun _ _ _ e=>e)
 |k+1,i,s,Q,hle,st,hQ=>by
  show wpAny _ _ (pyNext (.ref I)>>=_) Q E s
  refine wpAny_bind (W.item i s _ _ (by omega) st fun v h1 Nv hv CA k1=>?_)
  refine wpAny_bind (wpAny_holding (mw W k (i+1) _ _ (by omega) CA fun h2 Lm xs hl hx II k2=>wpAny_pure ?_))
  refine hQ h2 Lm (v::xs) (by rw [List.length_cons,hl]) (fun j u h=>?_) (by rw [show i+(k+1)=i+1+k by omega];exact II) fun b o hb e=>k2 b o hb (k1 b o hb e)
  cases j with
  |zero=>cases h;exact hv
  |succ j=>have:=hx j u h;rwa [show i+1+j=i+(j+1) by omega] at this
theorem qm{s:Shared}{t:Addr}{items:Array Value}{Q:List Value→Shared→Prop}(hh:A.handled=none)(ht:s.heap.IsList t items)
 (hQ:∀h' tk,(∀b o,s.heap.get? b=some o→h'.get? b=some o)→Q items.toList {s with heap:=h',toks:=tk}):wpAny (model prog w) A (unpackItems (.ref t) items.size none) Q E s:=by
 have cq:t≠s.heap.objs.size:=by obtain⟨o,ho,_⟩:=ht;exact Nat.ne_of_lt (Heap.lt_size ho)
 unfold unpackItems;refine wpAny_bind ?_;unfold notIterableAtAll;refine wpAny_bind (wpAny_specialOf ht.typeIs PySem.F.slot_list_iter.lookup ?_);refine wpAny_pure ?_;simp only [Bool.false_eq_true,if_false];refine wpAny_bind (wpAny_holding (wpAny_pyIter_list ht ?_));have W:=Walks.list (prog:=prog) (w:=w) hh s.heap.objs.size t cq items
 refine wpAny_bind (wpAny_holding (mw W items.size 0 _ _ (by omega) ⟨⟨_,Heap.get?_push_size _ rfl,rfl,rfl⟩,ht.at fun o e=>Heap.get?_push_of_some _ e⟩ fun h1 Nv xs hl hx CA k1=>?_))
 have w4:xs=items.toList:=by
  refine List.ext_getElem? fun j=>?_
  by_cases hj:j<xs.length
  ·have:=hx j xs[j] (zzg hj)
   rw [Nat.zero_add] at this;rw [zzg hj,Array.getElem?_toList,this]
  ·rw [List.getElem?_eq_none (by omega),List.getElem?_eq_none (by rw [Array.length_toList];omega)]
 subst w4;rw [if_neg (by simp)];rw [Nat.zero_add] at CA;refine wpAny_bind (wpAny_holding (W.done _ _ _ CA fun h2 Lm k2=>?_));simp only [Option.isSome_none,Bool.false_eq_true,if_false];have new:∀b o,s.heap.get? b=some o→b∉[s.heap.objs.size]:=fun b o e z=>absurd (Heap.lt_size e) (by rw [List.mem_singleton.mp z];exact Nat.lt_irrefl _)
 exact wpAny_pure (hQ h2 Lm fun b o e=>k2 b o (new b o e) (k1 b o (new b o e) (Heap.get?_push_of_some _ e)))
end
section
variable{X:Cx}{pos:Pos}
noncomputable def Kf(K:PySem.W.Frag)(n:Nat)(t:zG):TG:=fun v σ H Q=>∃a xs,v=.ref a∧gk K H a xs∧xs.length=n∧t xs σ H Q
theorem EW{es:List Expr}{k:Nat}{t:zG}{n:Nat}(hc:X.calm=true)(h:Gp X es t)
 (hn:(assignEach es X.env).length=n:=by rfl) (dm:(assignEach es X.env).findIdx? (·.1)=none:=by rfl):PG X (.Tuple es k pos) (Kf X.K n t):=by
 intro pins s σ H v u Q I r hw;obtain⟨a,xs,e1,hq,hl,hw⟩:=hw
 subst e1;cases r;obtain⟨aD,rv,ht,hz⟩:=I.list hq
 rw [assign_Tuple];refine wpAny_bind (wpAny_standAt ?_);unfold unpack;rw [dm,show(assignEach es X.env).length=aD.toArray.size by simp [hn,←hl,rv.length]];refine wpAny_bind (wpAny_holding (qm (I.ok.hd hc) ht.isList fun h' tk kp=>?_))
 exact h pins _ σ H xs _ Q (I.kept (t':=tk) kp) (by simpa using rv) hw
end
end L2
namespace Ci
open PySem L2
section
variable{Γ:Pg}{X:Cx}{W:Wd}{F:aV}{N:List Str}{sc:Scope}{k:Nat}{H0:Hp}{E:XK}
def Mv:List Nat→zG
 |[]=>D8
 |i::is=>uq (fM i) (Mv is)
theorem zj(S:dJ Γ F W N sc k E X):∀(is:List Nat) (es:List Expr),JW N sc is es=true→Gp X es (Mv is)∧(assignEach es X.env).length=is.length∧(assignEach es X.env).findIdx? (·.1)=none
 |[],[],_=>⟨sy,rfl,rfl⟩
 |i::is,a::as,h=>by
  have h:=aG h
  obtain⟨x,hx,h1⟩:=bI h.1
  obtain⟨p,rfl⟩:=nY hx
  simp only [zza,beq_iff_eq] at h1;obtain⟨g,l,f⟩:=zj S is as h.2
  have e:assignEach (.Name x p::as) X.env=(false,assign (.Name x p) X.env)::assignEach as X.env:=rfl
  refine⟨jk (sU (by rw [S.C.hN];exact S.C.nd) (by rw [S.C.hN];exact h1.1) (qQ S.C.hsc h1.2) (.inl (S.fn x))) g,by rw [e,List.length_cons,l,List.length_cons],?_⟩;rw [e,List.findIdx?_cons,f]
  rfl
 |[],_::_,h=>absurd h zzf
 |_::_,[],h=>absurd h zzf
theorem Am(S:dJ Γ F W N sc k E X)(i j l:Nat)(e:Ci.E)(p:Stmt)(h:dO Γ N sc (.unl i j l e) p=true):GS X W F H0 E (.unl i j l e) p:=by
 cases p<;>first|(exact absurd h zzf)|skip
 rename_i ts v pos;obtain⟨t,h0,h⟩:=bI h
 obtain⟨es,h1,h⟩:=bI h
 simp only [zza] at h;obtain⟨⟨⟨h2,h3⟩,h4⟩,h5⟩:=h
 cases ja h0;obtain⟨kk,tp,rfl⟩:=BA h1
 obtain⟨pg,hn,hf⟩:=zj S _ _ h4
 have v5:swappedStores [Expr.Tuple es kk tp] v X.env=pure none:=by
  cases v<;>first|rfl|(exact absurd h2 zzf)
 have zN:swapsWithSole [Expr.Tuple es kk tp] v pos.line X.env=pure false:=by
  cases v<;>rfl
 refine L2.PS.imp (qX (bq e S.C _ h5).ge (EW S.C.calm pg hn hf) zN v5 rfl) fun D σ H q=>?_
 obtain⟨G,env,sr,o⟩:=q
 rw [aL] at o;refine n6 S sr o fun q v G1 H1 g t bL o1=>?_
 cases q with
 |lst xs=>
  match xs,t,o1 with
  |[],_,o1=>exact False.elim o1
  |[_],_,o1=>exact False.elim o1
  |[_,_],_,o1=>exact False.elim o1
  |_::_::_::_::_,_,o1=>exact False.elim o1
  |[x,y,z],t,o1=>
   obtain⟨a,vs,rfl,hq,l1⟩:=t.top.lst bL.sub
   obtain⟨v1,r1,rfl,g1,l1⟩:=l1.uncons
   obtain⟨v2,r2,rfl,g2,l1⟩:=l1.uncons
   obtain⟨v3,r3,rfl,g3,l1⟩:=l1.uncons
   have:=l1.length
   cases r3 with
   |cons _ _=>cases this
   |nil=>exact⟨a,_,rfl,dW S.C.K hq,rfl,_,_,rfl,_,_,rfl,_,_,rfl,rfl,o1 _ G1 H1 (((bL.set i g1).set j g2).set l g3) bL.go⟩
 |_=>exact False.elim o1
end
end Ci
namespace Ci
open PySem L2
theorem nL:∀(cs:List Int) (all:List Int) (j b:Nat) (m:Int),all.drop j=cs→all[b]?=some m→b<j→(∀i c,all[i]?=some c→i<j→m≤c∧(i<b→m<c))→
 ∃m',all[dX cs j b m]?=some m'∧∀i c,all[i]?=some c→m'≤c∧(i<dX cs j b m→m'<c)
 |[],all,j,b,m,hd,hb,_,best=>by
  unfold dX;have hl:all.length≤j:=List.drop_eq_nil_iff.mp hd
  exact⟨m,hb,fun i c e=>best i c e (Nat.lt_of_lt_of_le (List.getElem?_eq_some_iff.mp e).1 hl)⟩
 |x::cs,all,j,b,m,hd,hb,hbj,best=>by
  have hx:all[j]?=some x:=by rw [←List.head?_drop,hd];rfl
  have JG:all.drop (j+1)=cs:=by rw [←List.drop_drop,hd];rfl
  unfold dX;split
  ·rename_i cq;refine nL cs all (j+1) j x JG hx (by omega) fun i c e hi=>?_
   by_cases h:i=j
   ·subst h;rw [hx] at e;cases e;exact⟨Int.le_refl _,fun z=>absurd z (Nat.lt_irrefl _)⟩
   ·have:=best i c e (by omega)
    exact⟨by omega,fun _=>by omega⟩
  ·rename_i cq;refine nL cs all (j+1) b m JG hb (by omega) fun i c e hi=>?_
   by_cases h:i=j
   ·subst h;rw [hx] at e;cases e;exact⟨by omega,fun z=>by omega⟩
   ·exact best i c e (by omega)
theorem Bw{cs:List Int}{x:Nat}(h:xQ cs=some x):∃m,cs[x]?=some m∧∀i c,cs[i]?=some c→m≤c∧(i<x→m<c):=by
 cases cs with
 |nil=>cases h
 |cons c cs=>
  cases h;refine nL cs (c::cs) 1 0 c rfl rfl (by omega) fun i d e hi=>?_
  have:i=0:=by omega
  subst this;cases e;exact⟨Int.le_refl _,fun z=>absurd z (Nat.not_lt_zero _)⟩
theorem mE{W:Wd}{G H:Hp}{K:PySem.W.Frag}(hK:W.K=K)(sg:aF G H):∀{ps:List PV} {us:List V} {cs:List Int},gH ps=some cs→ak W G ps us→cs.length=ps.length∧∀(i:Nat) v,us[i]?=some v→∃q r,v=V.ref q∧eJ K H q (.int (cs.getD i 0)::r)
 |[],_,_,e,l=>by cases e;simp only [ak] at l;subst l;exact⟨rfl,fun i v h=>by simp at h⟩
 |p::ps,us,cs,e,l=>by
  obtain⟨u,ur,rfl,h1,h2⟩:=l.uncons
  unfold gH at e;split at e
  ·rename_i heq;cases heq
  ·rename_i heq;cases heq;obtain⟨r,hr,rfl⟩:=Option.map_eq_some_iff.mp e
   obtain⟨i1,i2⟩:=mE hK sg hr h2
   refine⟨by simp [i1],fun i v hv=>?_⟩
   cases i with
   |zero=>
    cases hv;simp only [Rep] at h1;obtain⟨q,ws,rfl,tq,lq⟩:=h1
    obtain⟨w,wr,rfl,k1,lq⟩:=lq.uncons
    simp only [Rep] at k1;subst k1;exact⟨q,wr,rfl,by rw [←hK];simpa using aF.tup sg tq.sq⟩
   |succ i=>simpa using i2 i v (by simpa using hv)
  ·cases e
section
variable{Γ:Pg}{X:Cx}{W:Wd}{F:aV}{N:List Str}{sc:Scope}{k:Nat}{H0:Hp}{E:XK}
theorem AH(S:dJ Γ F W N sc k E X){m i:Nat}{x y:Str}{params:Arguments}{body:Expr}{scope:Scope}{yp q1 q2 q3 q4 q5 pos:Pos}(h1:N[m]?=some y)(h2:dH sc y=true)(h3:N[i]?=some x)(h4:sc.names.lookup x=some .cell)(h5:iM sc "min"=true)(h6:Γ.bs.contains "min"=true)(h7:Γ.hl=true)
 (h8:um x params body scope=true):GS X W F H0 E (.minK m i) (.Assign [.Name y yp] (.Call (.Name "min" q1) [.Name x q2] [⟨some "key",.Lambda params body scope q3,q4⟩] q5) pos):=by
 obtain⟨a1,a2,a3⟩:=eF S h1 h2
 obtain⟨p,ep,L,hfr,hox⟩:=wI h8
 have pe:PE X (.Call (.Name "min" q1) [.Name x q2] [⟨some "key",.Lambda params body scope q3,q4⟩] q5) (fun σ H Q=>∃G env ks ps cs ix kk,SR W H0 env σ G H∧env[i]?=some (.own (.dct ks ps))∧gH ps=some cs∧xQ cs=some ix∧ks[ix]?=some kk∧∀v G' H',aJ W G H G' H'→Rep W G' (aq kk) v→Q v H'):=by
  intro pins s σ H Q I hq;obtain⟨G,env,ks,ps,cs,ix,kk,sr,e1,e2,e3,e4,q⟩:=hq
  obtain⟨d,us,hs,n,k1,k2,k3,l⟩:=ie sr e1
  obtain⟨c,dC⟩:=I.ok.has x (.inl (by show X.env.scope.names.lookup x=_;rw [S.C.hsc];exact h4))
  have CU:closureFor scope X.env=pure [(x,c)]:=by
   rw [gE fun y hy hf=>?_]
   ·show pure (bJ X.env (bo scope))=_
    rw [hfr];simp [bJ,dC]
   ·have:y.1∈bo scope:=by
     unfold bo;rw [List.mem_reverse,List.mem_map];exact⟨y,List.mem_filter.mpr ⟨hy,by rw [hf];rfl⟩,rfl⟩
    rw [hfr] at this;rw [List.mem_singleton.mp this];exact⟨c,dC⟩
  refine wpAny_Call_Name_kw (eU I (fy S.C h5) (S.C.bs _ (List.contains_iff_mem.mp h6)) (u:=.builtin "min") (by decide+kernel) ?_);refine PyProof.Rows.callWith_kw ?_;refine Calls.spliced_cons (bR (eQ (i:=i) (by rw [S.C.hN];exact h3) (.inr (.inl (by show X.env.scope.names.lookup x=_;rw [S.C.hsc];exact h4))) (dj hox).1 (dj hox).2.1 pins s σ H (fun v' H1=>v'=.ref d∧H1=H) I ⟨_,hs,rfl,rfl⟩) fun u s1 hu=>Calls.spliced_nil ?_)
  obtain⟨v',H1,I1,ru,rfl,rfl⟩:=hu
  cases ru;refine PyProof.Rows.kws_cons (bR (yQ S.C h7 ep CU pins s1 σ H1 (fun v2 H2=>∃f G2,v2=.ref f∧nU X W params body scope [(x,c)] G H1 G2 H2 f) I1 ⟨G,sr.sub,sr.tab,fun f G2 H2 lm=>⟨f,G2,rfl,lm⟩⟩) fun u s2 hu=>PyProof.Rows.kws_nil ?_)
  obtain⟨v2,H2,I2,ru,f,G2,rfl,g2,c',oc,cU,t,eW,pm,fo,co,cd,cn⟩:=hu
  cases ru;have eO:=sr.grow g2
  obtain⟨d',us',vI,n',k1',k2',k3',l'⟩:=ie eO e1
  rw [hs] at vI;cases vI;obtain⟨cl1,cl2⟩:=mE (K:=X.K) S.C.K eO.sub e2 l'
  have M:KM X σ H2 k d f (kz ks us') (fun i=>cs.getD i 0):=by
   refine⟨S.C.room,k1',⟨p,x,params,body,scope,_,c,c',oc,cU,t,pm,eW,i,L,dC,I.ok.cab x c (S.C.fl h7 x) dC,eO.sub _ _ fo,eO.sub _ _ co,cd,cn,fun u=>ud ep [u] rfl,by rw [S.C.hN];exact h3,hs,by rw [S.C.hsc];exact h4⟩,fun j kx v e=>?_⟩
   have:us'[j]?=some v:=by
    unfold kz at e;rw [List.getElem?_zip_eq_some] at e;exact e.2
   exact cl2 j v this
  obtain⟨mm,hm1,KW⟩:=Bw e3
  have JI:ix<ks.length:=(List.getElem?_eq_some_iff.mp e4).1
  have NU:cs.length=ks.length:=by rw [cl1,←l'.length,n']
  refine vL M (by rw [eK n'];omega) I2 fun j kx v b e hb best=>?_
  rw [eK n'] at best;have hj:j<ks.length:=by
   have:=(List.getElem?_eq_some_iff.mp e).1
   rw [eK n'] at this;exact this
  have ej:j=ix:=by
   have ca:∀a,a<cs.length→cs[a]?=some (cs.getD a 0):=fun a ha=>by simp [ha]
   have b1:=best ix JI
   have b2:=KW j _ (ca j (by omega))
   have em:mm=cs.getD ix 0:=by rw [ca ix (by omega)] at hm1;exact(Option.some.inj hm1).symm
   rw [em] at b2;rcases Nat.lt_trichotomy j ix with z|z|z
   ·have:=b2.2 z;have:=b1.1;omega
   ·exact z
   ·have:=b1.2 z;have:=b2.1;omega
  subst ej;have ek:kx=ki kk:=by
   have:=congrArg (fun l=>l[j]?) (nZ (us:=us') n')
   simp only [List.getElem?_map,e,e4,Option.map_some] at this;exact Option.some.inj this
  rw [ek,nX] at hb;obtain⟨G3,g3,l3⟩:=f9 (W:=W) (vs:=[.ref b]) (nss:=[kk]) eO.sub (.cons ⟨b,rfl,hb⟩ .nil)
  obtain⟨w,r,ew,hw,_⟩:=l3.uncons
  cases ew;exact q _ _ _ (g2.trans g3) hw
 refine L2.PS.imp (nq a1 a2 a3 pe rfl (.inl (S.fn y))) fun D σ H hq=>?_
 obtain⟨G,env,sr,o⟩:=hq
 rw [aL] at o;split at o
 ·rename_i ks ps hx;split at o
  ·rename_i cs hcs;split at o
   ·rename_i kk EB;obtain⟨ix,CC,hk2⟩:=Option.bind_eq_some_iff.mp EB
    exact⟨G,env,ks,ps,cs,ix,kk,sr,hx,hcs,CC,hk2,fun v G' H' g' rp=>o _ G' _ ((sr.grow g').set m rp) (sr.on g')⟩
   ·exact o.elim
  ·exact o.elim
 ·exact o.elim
end
end Ci
namespace Ci
open PySem L2
section
variable{Γ:Pg}{X:Cx}{W:Wd}{F:aV}{N:List Str}{sc:Scope}{k:Nat}{H0:Hp}{E:XK}
theorem zV{kk:Nat}{ba:List Nat}{tg:Tg}{it:I}{elt:Ci.E}:∀env q,az F (.comp kk ba tg it elt) env=.ok q→∃xs,q=.lst xs:=fun env q e=>by
 rw [az] at e;obtain⟨ps,_,e⟩:=Res.bind_ok e
 split at e
 ·obtain⟨ys,_,e⟩:=Res.bind_ok e
  cases e;exact⟨_,rfl⟩
 ·cases e
theorem vg{kk:Nat}{ba:List Nat}{tg:Tg}{it:I}{c elt:Ci.E}:∀env q,az F (.compIf kk ba tg it c elt) env=.ok q→∃xs,q=.lst xs:=fun env q e=>by
 rw [az] at e;obtain⟨ps,_,e⟩:=Res.bind_ok e
 split at e
 ·obtain⟨ys,_,e⟩:=Res.bind_ok e
  cases e;exact⟨_,rfl⟩
 ·cases e
theorem oQ{e:Ci.E}(h:g6 e=true):∀env q,az F e env=.ok q→∃xs,q=.lst xs:=by
 cases e<;>first|(exact absurd h zzf)|exact lst_is|exact zV|exact vg
theorem lO(S:dJ Γ F W N sc k E X){i:Nat}{x:Str}{xp pos:Pos}(hx:N[i]?=some x)(AV:dH sc x=true):∀(e:Ci.E) (p:Expr),g6 e=true→aZ Γ N sc e p=true→PS X (.Assign [.Name x xp] p pos) (GC X W F i e)
 |.lst as,p,_,h=>by
  cases p<;>first|(exact absurd h zzf)|skip
  replace h:=aG h
  try simp only [zza,decide_eq_true_eq] at h
  exact nO S hx AV (xl h.1.1 h.1.2 (iU as S.C _ h.2)) rfl
 |.comp kk ba tg it elt,p,_,h=>by
  cases p<;>first|(exact absurd h zzf)|skip
  rename_i dq gens scope ppos
  match gens,h with
  |[⟨cy,eG,[],asy⟩],h=>
   replace h:=aG h
   simp only [zza] at h;obtain⟨⟨⟨⟨⟨⟨h1,h2⟩,h3⟩,h4⟩,h5⟩,h6⟩,gB⟩:=h
   have gB:=of_decide_eq_true gB
   subst gB;exact ym S hx AV (hX h1) h2 h3 (ya it S.C cy eG h4) (ib h4 _) h5 fun Y CY=>(bq elt CY dq h6).ge
  |[],h=>exact absurd h zzf
  |⟨_,_,[],_⟩::_::_,h=>exact absurd h zzf
  |⟨_,_,[_],_⟩::_::_,h=>exact absurd h zzf
  |⟨_,_,_::_::_,_⟩::_::_,h=>exact absurd h zzf
  |[⟨_,_,_::_,_⟩],h=>exact absurd h zzf
 |.compIf kk ba tg it c elt,p,_,h=>by
  cases p<;>first|(exact absurd h zzf)|skip
  rename_i dq gens scope ppos
  match gens,h with
  |[⟨cy,eG,[pc],asy⟩],h=>
   replace h:=aG h
   simp only [zza] at h;obtain⟨⟨⟨⟨⟨⟨⟨⟨h0,h1⟩,h2⟩,h3⟩,h4⟩,h5⟩,h6⟩,h7⟩,gB⟩:=h
   have gB:=of_decide_eq_true gB
   subst gB;exact sk S hx AV (hX h1) h2 h3 (ya it S.C cy eG h4) (ib h4 _) h5 (fun Y CY=>(bq c CY pc h6).gt h0) fun Y CY=>(bq elt CY dq h7).ge
  |[],h=>exact absurd h zzf
  |⟨_,_,[],_⟩::_::_,h=>exact absurd h zzf
  |⟨_,_,[_],_⟩::_::_,h=>exact absurd h zzf
  |⟨_,_,_::_::_,_⟩::_::_,h=>exact absurd h zzf
  |[⟨_,_,[],_⟩],h=>exact absurd h zzf
  |[⟨_,_,_::_::_,_⟩],h=>exact absurd h zzf
 |.var _,_,z,_=>nomatch z
 |.tmp _,_,z,_=>nomatch z
 |.cst _,_,z,_=>nomatch z
 |.glob _ _,_,z,_=>nomatch z
 |.call _ _,_,z,_=>nomatch z
 |.blt _ _,_,z,_=>nomatch z
 |.ty _ _,_,z,_=>nomatch z
 |.mth _ _ _,_,z,_=>nomatch z
 |.bin _ _ _,_,z,_=>nomatch z
 |.cmp _ _ _,_,z,_=>nomatch z
 |.ch _ _ _ _ _,_,z,_=>nomatch z
 |.not _,_,z,_=>nomatch z
 |.neg _,_,z,_=>nomatch z
 |.and _ _,_,z,_=>nomatch z
 |.or _ _,_,z,_=>nomatch z
 |.ite _ _ _,_,z,_=>nomatch z
 |.tup _,_,z,_=>nomatch z
 |.sub _ _,_,z,_=>nomatch z
 |.slice _ _ _,_,z,_=>nomatch z
 |.rev _,_,z,_=>nomatch z
theorem uD{e:Ci.E}{p:Expr}(h:aZ Γ N sc e p=true)(hf:g6 e=false):oy p=true:=by
 cases p<;>first|rfl|(cases e<;>first|(exact absurd h zzf)|(rename_i q;cases q<;>exact absurd h zzf)|(cases hf;done))
theorem vA(S:dJ Γ F W N sc k E X){i:Nat}{x:Str}{e:Ci.E}{p:Expr}{xp pos:Pos}(h:N[i]?=some x)(hl:dH sc x=true)(dk:ff e=true)(hc:aZ Γ N sc e p=true):GS X W F H0 E (.set i e) (.Assign [.Name x xp] p pos):=by
 cases hf:g6 e with
 |true=>exact zQ S (oQ hf) dk (lO S h hl e p hf hc)
 |false=>exact EU S h hl dk (bq e S.C p hc).ge (mV (uD hc hf))
theorem yd(S:dJ Γ F W N sc k E X)(e:Ci.E)(p:Stmt)(h:dO Γ N sc (.expr e) p=true):GS X W F H0 E (.expr e) p:=by
 cases p<;>first|(exact absurd h zzf)|skip
 replace h:=aG h
 try simp only [zza] at h
 exact A6 S (bq e S.C _ h.2).ge h.1
theorem Bk(S:dJ Γ F W N sc k E X)(i:Nat)(e:Ci.E)(p:Stmt)(h:dO Γ N sc (.set i e) p=true):GS X W F H0 E (.set i e) p:=by
 cases p<;>first|(exact absurd h zzf)|skip
 replace h:=bI h
 simp only [Option.any_eq_true,zza,beq_iff_eq] at h;obtain⟨x,h0,h1⟩:=h
 obtain⟨xp,rfl⟩:=n5 h0
 exact vA S h1.1.1.1 h1.1.1.2 h1.1.2 h1.2
theorem Bf(S:dJ Γ F W N sc k E X)(i:Nat)(e:Ci.E)(p:Stmt)(h:dO Γ N sc (.own i e) p=true):GS X W F H0 E (.own i e) p:=by
 cases p<;>first|(exact absurd h zzf)|skip
 replace h:=bI h
 simp only [Option.any_eq_true,zza,beq_iff_eq] at h;obtain⟨x,h0,h⟩:=h
 obtain⟨xp,rfl⟩:=n5 h0
 exact AD S h.1.1.1 (oQ h.1.2) (lO S h.1.1.1 h.1.1.2 e _ h.1.2 h.2)
theorem A7(S:dJ Γ F W N sc k E X)(i:Nat)(p:Stmt)(h:dO Γ N sc (.frz i) p=true):GS X W F H0 E (.frz i) p:=by
 cases p<;>exact absurd h zzf
theorem BF(S:dJ Γ F W N sc k E X)(i:Nat)(e:Ci.E)(p:Stmt)(h:dO Γ N sc (.app i e) p=true):GS X W F H0 E (.app i e) p:=by
 cases p<;>first|(exact absurd h zzf)|skip
 replace h:=bI h
 simp only [Option.any_eq_true,zza,beq_iff_eq] at h;obtain⟨⟨x,m,args⟩,h0,⟨⟨⟨⟨h1,h2⟩,h3⟩,h4⟩,h5⟩,q,h6,h7⟩:=h
 obtain⟨np,apos,bC,rfl,hl⟩:=rT h0
 cases ja h6;cases h4;exact Ex S h1 h2 h3 hl h5 (bq e S.C q h7).ge (notStar h7)
theorem yl(S:dJ Γ F W N sc k E X)(i:Nat)(e:Ci.E)(p:Stmt)(h:dO Γ N sc (.extd i e) p=true):GS X W F H0 E (.extd i e) p:=by
 cases p<;>first|(exact absurd h zzf)|skip
 replace h:=bI h
 simp only [Option.any_eq_true,zza,beq_iff_eq] at h;obtain⟨⟨x,m,args⟩,h0,⟨⟨⟨h1,h2⟩,h3⟩,h4⟩,q,h6,h7⟩:=h
 obtain⟨np,apos,bC,rfl,hl⟩:=rT h0
 cases ja h6;cases h4;exact AX S h1 h2 h3 hl (bq e S.C q h7).ge (notStar h7)
theorem AU(S:dJ Γ F W N sc k E X)(i:Nat)(kk e:Ci.E)(p:Stmt)(h:dO Γ N sc (.put i kk e) p=true):GS X W F H0 E (.put i kk e) p:=by
 cases p<;>first|(exact absurd h zzf)|skip
 replace h:=bI h
 simp only [Option.any_eq_true,zza,beq_iff_eq] at h;obtain⟨⟨x,pk⟩,h0,⟨⟨⟨⟨h1,h2⟩,h3⟩,h5⟩,h6⟩,h7⟩:=h
 obtain⟨np,sp,rfl⟩:=yB h0
 exact FA S h1 h2 h3 h5 h6 (bq kk S.C pk h6).ge (bq e S.C _ h7).ge
theorem yg(S:dJ Γ F W N sc k E X)(i:Nat)(p:Stmt)(h:dO Γ N sc (.dnew i) p=true):GS X W F H0 E (.dnew i) p:=by
 cases p<;>first|(exact absurd h zzf)|skip
 rename_i ts v pos;cases v<;>first|(exact absurd h zzf)|skip
 rename_i ks vs dp;cases ks<;>first|(exact absurd h zzf)|skip
 cases vs<;>first|(exact absurd h zzf)|skip
 replace h:=bI h
 simp only [Option.any_eq_true,zza,beq_iff_eq] at h;obtain⟨x,h0,h1,h2⟩:=h
 obtain⟨yp,rfl⟩:=n5 h0
 exact BV S h1 h2
theorem qF(S:dJ Γ F W N sc k E X)(i j n:Nat)(p:Stmt)(h:dO Γ N sc (.putPop i j n) p=true):GS X W F H0 E (.putPop i j n) p:=by
 cases p<;>first|(exact absurd h zzf)|skip
 replace h:=bI h
 simp only [Option.any_eq_true,zza,beq_iff_eq] at h;obtain⟨⟨x,pk⟩,h0,z,hz,⟨⟨⟨⟨⟨h1,h2⟩,h3⟩,h4⟩,h5⟩,h6⟩,⟨y,m,args⟩,h7,h8,e,he,z2,hz2,⟨⟨h9,h10⟩,h11⟩,h12⟩:=h
 obtain⟨np,sp,rfl⟩:=yB h0
 obtain⟨zp,rfl⟩:=nY hz
 obtain⟨yp,apos,bC,rfl,hl⟩:=rT h7
 cases h8;cases ja he;obtain⟨Mp,rfl⟩:=nY hz2
 subst h9;exact uN S h1 h2 h3 h4 h5 h6 h10 h11 h12 hl
theorem xD(S:dJ Γ F W N sc k E X)(m i:Nat)(p:Stmt)(h:dO Γ N sc (.minK m i) p=true):GS X W F H0 E (.minK m i) p:=by
 cases p<;>first|(exact absurd h zzf)|skip
 replace h:=bI h
 simp only [Option.any_eq_true,zza,beq_iff_eq] at h;obtain⟨y,hy,c,hc,⟨⟨⟨⟨⟨⟨h1,h2⟩,h3⟩,h4⟩,h5⟩,h6⟩,h7⟩,h8⟩:=h
 obtain⟨yp,rfl⟩:=n5 hy
 obtain⟨q1,q2,q3,q4,q5,rfl⟩:=Dq hc
 exact AH S h1 h2 h3 h4 h5 h6 h7 h8
theorem A3(S:dJ Γ F W N sc k E X)(e:Ci.E)(p:Stmt)(h:dO Γ N sc (.ret e) p=true):GS X W F H0 E (.ret e) p:=by
 cases p<;>first|(exact absurd h zzf)|skip
 rename_i v pos;cases v with
 |none=>exact absurd h zzf
 |some v=>
  replace h:=aG h
  try simp only [zza] at h
  exact Fi S h.1 (bq e S.C v h.2).ge
theorem uG(S:dJ Γ F W N sc k E X)(c m:Str)(p:Stmt)(h:dO Γ N sc (.raise c m) p=true):GS X W F H0 E (.raise c m) p:=by
 cases p<;>first|(exact absurd h zzf)|skip
 replace h:=aG h
 simp only [Option.any_eq_true,zza,beq_iff_eq] at h;obtain⟨hn,⟨x,z⟩,h0,⟨⟨⟨h1,h2⟩,h3⟩,h4⟩,h5⟩:=h
 obtain⟨np,j,zp,cp,rfl⟩:=F3 h0
 cases h1;cases h2;rename_i fr pos;cases Option.isNone_iff_eq_none.mp hn;exact wF S h3 h4 h5
theorem Br(S:dJ Γ F W N sc k E X)(p:Stmt)(h:dO Γ N sc (.brk) p=true):GS X W F H0 E (.brk) p:=by
 cases p<;>first|(exact absurd h zzf)|skip
 exact E2
theorem BK{c:Ci.E}{a b:Ss}{p:Stmt}(h:dO Γ N sc (.ite c a b) p=true):∃q pa pb pos,p=.If q pa pb pos∧dI c=true∧aZ Γ N sc c q=true∧c5 Γ N sc a pa=true∧c5 Γ N sc b pb=true:=by
 cases p<;>first|(exact absurd h zzf)|skip
 replace h:=aG h
 try simp only [zza] at h
 exact⟨_,_,_,_,rfl,h.1.1.1,h.1.1.2,h.1.2,h.2⟩
theorem AR{tg:Tg}{it:I}{b:Ss}{p:Stmt}(h:dO Γ N sc (.for_ tg it b) p=true):∃cy eG pb pos,p=.For cy eG pb [] pos∧fT N sc (fun _=>true) tg cy=true∧B3 it=true∧uU Γ N sc cy it eG=true∧c5 Γ N sc b pb=true:=by
 cases p<;>first|(exact absurd h zzf)|skip
 replace h:=aG h
 try simp only [zza] at h
 cases List.isEmpty_iff.mp h.1.1.1.1;exact⟨_,_,_,_,rfl,h.1.1.1.2,h.1.1.2,h.1.2,h.2⟩
theorem zP{c:Ci.E}{b:Ss}{p:Stmt}(h:dO Γ N sc (.whl c b) p=true):∃q pb pos,p=.While q pb [] pos∧dI c=true∧aZ Γ N sc c q=true∧c5 Γ N sc b pb=true:=by
 cases p<;>first|(exact absurd h zzf)|skip
 replace h:=aG h
 try simp only [zza] at h
 cases List.isEmpty_iff.mp h.1.1.1;exact⟨_,_,_,rfl,h.1.1.2,h.1.2,h.2⟩
theorem Be{ps:List Stmt}(h:c5 Γ N sc .nil ps=true):ps=[]:=by
 cases ps with
 |nil=>rfl
 |cons _ _=>exact absurd h zzf
theorem zy{s:Ci.S}{ss:Ss}{ps:List Stmt}(h:c5 Γ N sc (.cons s ss) ps=true):(∃i,s=.frz i∧c5 Γ N sc ss ps=true)∨∃q qs,ps=q::qs∧dO Γ N sc s q=true∧c5 Γ N sc ss qs=true:=by
 by_cases hz:∃i,s=.frz i
 ·obtain⟨i,rfl⟩:=hz
  exact .inl ⟨i,rfl,h⟩
 ·cases ps with
  |nil=>cases s<;>first|(exact absurd ⟨_,rfl⟩ hz)|(exact absurd h zzf)
  |cons p ps=>
   have h2:(dO Γ N sc s p&&c5 Γ N sc ss ps)=true:=by
    cases s<;>first|(exact absurd ⟨_,rfl⟩ hz)|(exact h)
   rw [zza] at h2;exact .inr ⟨p,ps,rfl,h2.1,h2.2⟩
mutual
theorem Ly(S:dJ Γ F W N sc k E X):∀(s:Ci.S) (p:Stmt),dO Γ N sc s p=true→GS X W F H0 E s p
 |.expr e,p,h=>yd S e p h
 |.set i e,p,h=>Bk S i e p h
 |.own i e,p,h=>Bf S i e p h
 |.frz i,p,h=>A7 S i p h
 |.app i e,p,h=>BF S i e p h
 |.extd i e,p,h=>yl S i e p h
 |.put i kk e,p,h=>AU S i kk e p h
 |.dnew i,p,h=>yg S i p h
 |.putPop i j n,p,h=>qF S i j n p h
 |.minK m i,p,h=>xD S m i p h
 |.unl i j l e,p,h=>Am S i j l e p h
 |.ret e,p,h=>A3 S e p h
 |.ite c a b,p,h=>by
  obtain⟨q,pa,pb,pos,rfl,h1,h2,h3,h4⟩:=BK h
  exact DJ S ((bq c S.C _ h2).gt h1) (jZ S a _ h3) (jZ S b _ h4)
 |.for_ tg it b,p,h=>by
  obtain⟨cy,eG,pb,pos,rfl,h1,h2,h3,h4⟩:=AR h
  exact DH S h1 h2 (ya it S.C cy eG h3) (ib h3 _) (jZ S b _ h4)
 |.whl c b,p,h=>by
  obtain⟨q,pb,pos,rfl,h1,h2,h3⟩:=zP h
  exact DB S ((bq c S.C _ h2).gt h1) (jZ S b _ h3)
 |.raise c m,p,h=>uG S c m p h
 |.brk,p,h=>Br S p h
theorem jZ(S:dJ Γ F W N sc k E X):∀(ss:Ss) (ps:List Stmt),c5 Γ N sc ss ps=true→zI X W F H0 E ss ps
 |.nil,ps,h=>by
  cases Be h;exact BJ
 |.cons s ss,ps,h=>by
  rcases zy h with⟨i,e,h2⟩|⟨q,qs,e,h1,h2⟩
  ·have:=Aj (i:=i) (jZ S ss ps h2)
   rw [←e] at this;exact this
  ·rw [e];exact yr (Ly S s q h1) (jZ S ss qs h2)
end
end
end Ci
namespace L2
open PySem PySem.Spec PyProof.Rows
theorem w5{K:PySem.W.Frag}{C:Addr}{T:String}{b:Bool}(h1:PySem.W.kitMeta T=true)(h3:PySem.W.subIn K (.ref C) (.type T)=some b):PySem.W.kitOne K (.ref C) (.type T)=some b:=by
 unfold PySem.W.kitOne;split
 ·rename_i e;cases beq_iff_eq.mp e
 ·show(if PySem.W.kitMeta T=true then PySem.W.subIn K (.ref C) (.type T) else none)=some b
  rw [if_pos h1];exact h3
theorem DI{K:PySem.W.Frag}{h:Heap}{mg:Str→Option Value}{x:Str}{C:Addr}{LX:List Value}{newId:String}(X:K.In h)(hm:mg x=some (.ref C))(q:PySem.W.excIn K C LX newId=true):OwnCls x C LX newId mg h:=by
 constructor
 ·exact hm
 ·unfold PySem.W.excIn at q;split at q
  ·rename_i dd cd sl ho;split at q
   ·rename_i C1 bm1 k0 k1 k2 k3 n1 k5 hm1 zN;simp only [zza,beq_iff_eq,Bool.not_eq_true'] at q;obtain⟨⟨⟨⟨⟨q1,q2⟩,q3⟩,q4⟩,q5⟩,q6⟩:=q
    subst q1 q2;obtain⟨nm,bs,mro,ns,qn,hd,sn,sub,ab,col,del⟩:=cd
    have KW:mro=.ref C1::bm1:=hm1
    have hd2:del=false:=q3
    have L8:PySem.W.nsOkIn K ns=true:=q5
    have NW:PySem.W.nsIn K ns "__init__"=some none:=q6
    subst KW hd2;obtain⟨ls⟩:=sl
    have uf:ls=[k0,k1,k2,k3,some (.builtin n1),k5]:=zN
    subst uf;exact⟨bm1,ns,nm,qn,bs,hd,sn,sub,ab,col,dd,k0,k1,k2,k3,k5,_,X _ _ ho,.of_isNs (PySem.W.isNs_of_in X L8),PySem.W.nsMap_none_of_in X L8 NW,PySem.W.tail_of_in X q4⟩
   ·cases q
  ·cases q
end L2
namespace Ci
open PySem L2
abbrev wW:List Value:=[.type "ValueError",.type "Exception",.type "BaseException",.type "object"]
structure r8(K:PySem.W.Frag)(mg:Str→Option Value)(Γ:Pg)(W:Wd):Prop where
 hK:W.K=K
 hm:W.mg=mg
 gs:∀q∈Γ.gs,∃u v,mg q.1=some u∧RelV v u∧∀G,Rep W G q.2 v
 bs:∀g∈Γ.bs,mg g=none
 nov:Γ.cs.contains "ValueError"=false
 cls:∀c∈Γ.cs,∃C,mg c=some (.ref C)
 xc:∀d∈W.xs,∀D,mg d=some (.ref D)→DX K D∧(∀c∈Γ.cs,∀C,mg c=some (.ref C)→PySem.W.kitOne K (.ref D) (.ref C)=some (c==d||c=="FloorError"))∧PySem.W.kitOne K (.ref D) (.type "ValueError")=some true
 xs:∀c,Γ.rs.contains c=true→c∈W.xs
 rm:∀c,Γ.rs.contains c=true→∃C,mg c=some (.ref C)∧PySem.W.excIn K C wW "ValueError.__new__"=true
 exm:Γ.cs.contains "FloorError"=true→∀c D,c∈W.xs→mg c=some (.ref D)→∀T,mg "FloorError"=some (.ref T)→PySem.W.exmOne K (.ref D) (.ref T)=some true
 bm:W.ts≠[]→∃bm o,mg "__builtins__"=some (.ref bm)∧bm≠builtinsNs∧bm≠mainGlobals∧K.lookup bm=some o∧o.cls=.type "module"∧o.dict=some builtinsNs∧o.data=.plain
structure Row where
 f:Str
 h:Str
 d:Def
 st:Stmt
 hl:Bool:=false
abbrev d5:Type:=List Row
def k7(l:d5):List Str:=l.filterMap fun r=>if r.d.clo.isNone then some r.f else none
def vK(l:d5):List Hs:=l.filterMap fun r=>r.d.clo.map fun q=>⟨r.f,r.h,q.1,q.2,r.d.np⟩
def tab(l:d5):List (Str×Def):=l.map fun q=>(q.f,q.d)
noncomputable def Pg.at(Γ:Pg)(l:d5)(hl:Bool):Pg:={Γ with fs:=k7 l,hs:=vK l,hl:=hl}
structure cx(Γ:Pg)(n:Str)(d:Def)(st:Stmt):Prop where
 sc:jf d.N (d.N.take d.np) (defScope st)
 np:d.np≤d.N.length
 bind:∀(kV doc pm:Value) (an:Option Addr) (eZ ct:Value) (us:List Value),us.length=(d.N.take d.np).length→bindArgs (PySem.W.fnOf n n (defArgs st) (defBody st) (defScope st) .none kV doc pm an eZ ct) ⟨us,[]⟩=pure ((d.N.take d.np).zip us)
 chk:c5 Γ d.N (defScope st) d.body (defBody st)=true
theorem stM{Γ:Pg}{n:Str}{d:Def}{st:Stmt}(b:∀(kV doc pm:Value) (an:Option Addr) (eZ ct:Value) (us:List Value),us.length=(d.N.take d.np).length→bindArgs (PySem.W.fnOf n n (defArgs st) (defBody st) (defScope st) .none kV doc pm an eZ ct) ⟨us,[]⟩=pure ((d.N.take d.np).zip us))
 (a1:(defScope st).kind=.function:=by rfl) (a2:(defScope st).isCoroutine=false:=by rfl) (a3:(defScope st).isGenerator=false:=by rfl) (a4:d.N.Nodup:=by decide+kernel) (a5:d.N.take (d.N.take d.np).length=d.N.take d.np:=by rfl)
 (a6:∀x∈d.N.take d.np,(defScope st).names.lookup x=some .local∨(defScope st).names.lookup x=some .cell:=by decide+kernel) (a7:∀y∈(defScope st).names,y.2≠.free:=by decide+kernel) (a8:d.np≤d.N.length:=by decide+kernel) (a9:c5 Γ d.N (defScope st) d.body (defBody st)=true:=by decide+kernel):cx Γ n d st:=⟨⟨a1,a2,a3,a4,a5,a6,a7⟩,a8,b,a9⟩
def CodeK(K:PySem.W.Frag)(c P:Addr):Prop:=∃o vs file tf flags tg Lb text tt,K.lookup c=some o∧o.cls=.type "code"∧o.data=.fields vs∧vs[11]?=some (.ref P)∧vs.getD 11 .none=.ref P∧vs.getD 18 .none=.str file tf∧
 vs.getD 7 .none=.int flags tg∧vs.getD 9 .none=.bool Lb∧vs.getD 10 .none=.int text tt∧c≠P
def lamQ(n:Str):Str:=(n++".<locals>.")++"<lambda>"
def EntK(K:PySem.W.Frag)(ts:List (Addr×Str))(hl:Bool)(n:Str)(st:Stmt):Prop:=∃(f:Addr) (oc:Value) (od:Option Addr) (kV doc pm:Value) (an:Option Addr) (eZ ct:Value) (rK:Array (Option Value)),
 PySem.W.nsIn K mainGlobals n=some (some (.ref f))∧K.lookup f=some ⟨oc,od,.func (PySem.W.fnOf n n (defArgs st) (defBody st) (defScope st) .none kV doc pm an eZ ct),rK⟩∧PySem.W.codeIn K eZ n=true∧PySem.W.keepIn K (.ref f)=true∧
 (hl=true→∃c P,eZ=.ref c∧CodeK K c P∧(P,lamQ n)∈ts∧∀q',(P,q')∈ts→q'=lamQ n)
theorem entK{K:PySem.W.Frag}{ts:List (Addr×Str)}{n:Str}{st:Stmt}{f:Addr}{oc:Value}{od:Option Addr}{kV doc pm:Value}{an:Option Addr}{eZ ct:Value}{rK:Array (Option Value)}(a:PySem.W.nsIn K mainGlobals n=some (some (.ref f)))
 (l:K.lookup f=some ⟨oc,od,.func (PySem.W.fnOf n n (defArgs st) (defBody st) (defScope st) .none kV doc pm an eZ ct),rK⟩) (c:PySem.W.codeIn K eZ n=true) (k:PySem.W.keepIn K (.ref f)=true):EntK K ts false n st:=⟨f,oc,od,kV,doc,pm,an,eZ,ct,rK,a,l,c,k,(fun z=>nomatch z)⟩
structure ni(P:Program)(w:World)(K:PySem.W.Frag)(mg:Str→Option Value)(base:Heap)(W:Wd)(F:aV)(k:Nat)(f:Str):Prop where
 ex:∃fa fd ps,fD P w K mg base (dy P w) k fa fd ps (wu W F f ps.length none)∧mg f=some (.ref fa)∧PySem.W.keepIn K (.ref fa)=true∧Binds K fd ps []∧∀as,F f as≠.bad→as.length=ps.length
structure EO(P:Program)(w:World)(K:PySem.W.Frag)(mg:Str→Option Value)(base:Heap)(W:Wd)(F:aV)(k:Nat)(q:Hs):Prop where
 ex:∃fa fd ps,fD P w K mg base (dy P w) k fa fd ps (wu W F q.f ps.length (some (q.g,q.idx)))∧mg q.h=some (.ref fa)∧PySem.W.keepIn K (.ref fa)=true∧Binds K fd ps []∧ps.length=q.np
section
variable{P:Program}{w:World}{K:PySem.W.Frag}{mg:Str→Option Value}{base:Heap}{Γ:Pg}{W:Wd}
theorem vH{c p:Addr}(KB:K.In base)(h:CodeK K c p):PySem.W.CodeHd base c p:=by
 obtain⟨o,vs,file,tf,flags,tg,Lb,text,tt,e,r⟩:=h
 exact⟨o,vs,file,tf,flags,tg,Lb,text,tt,KB _ _ e,r⟩
theorem Dt(M:r8 K mg Γ W)(KB:K.In base){F:aV}{k:Nat}{N ps:List Str}{qual:Str}{sc:Scope}(S:jf N ps sc)(hF:∀f,Γ.fs.contains f=true→ni P w K mg base W F k f)(hH:∀q∈Γ.hs,EO P w K mg base W F k q)(hA:∀g as,F g as≠.bad→Γ.fs.contains g=true∨gC g=true){f:Addr}{cd:Value}
 (hL:Γ.hl=true→∃c p,cd=.ref c∧CodeK K c p∧(p,lamQ qual)∈W.ts∧∀q',(p,q')∈W.ts→q'=lamQ qual) {A:Around} {outer:List Env} {s:Shared} {H:Hp} {E:XK} (hr:di (k+1) (A.deeper (PyProof.Rows.envOfC qual sc s.heap.objs.size f cd))):
 dJ Γ F W N sc k E (dn (dy P w) P w K mg base N qual sc f cd A outer s H E) where
 C:=⟨rfl,rfl,rfl,S.nd,M.hK,M.hm,M.gs,M.bs,hr,fun g hg=>⟨(hF g hg).ex⟩,M.nov,M.cls,M.xc,fun q hq=>⟨(hH q hq).ex⟩,hA,fun z=>by
  obtain⟨c,p,e1,e2,e3,e4⟩:=hL z
  exact⟨c,p,e1,vH KB e2,e3,e4⟩,fun z=>by
  obtain⟨c,p,e1,e2,e3,e4⟩:=hL z
  obtain⟨bm,o,b1,b2,b3,b4,b5⟩:=M.bm (fun y=>by rw [y] at e3;cases e3)
  exact⟨bm,o,b1,b2,b3,KB _ _ b4,b5⟩,fun _ _=>rfl⟩
 fn:=fun _=>rfl
 own:=PassesOwn.leaving
 pass:=GQ
 kind:=S.kind
 stk:=rfl
 frame:=rfl
 xs:=M.xs
 rm:=fun c hc=>let⟨C,h,_⟩:=M.rm c hc;⟨C,h⟩
 rz:=fun c z j np zp cp pos h1 h2 h3=>by
  obtain⟨C,hC,hx⟩:=M.rm c h1
  have hg:Gl (dn (dy P w) P w K mg base N qual sc f cd A outer s H E) c:=beq_iff_eq.mp h2
  refine L2.PS.imp (yD hg (DI KB hC hx) PySem.F.excBase_ValueError (cI xJ d7) rfl rfl (dj h3).1) fun D σ H1 h=>⟨(show 1≤sizeLine by decide),fun e he=>h C e hC he⟩
 exm:=M.exm
theorem pT{H G:Hp}{N:List Str}{as:List PV}{vs:List V}(sg:aF G H)(tb:cD W G H)(l:ak W G as vs)(hn:as.length≤N.length):SR W H (as.map .val++List.replicate (N.length-as.length) .no) (start N vs) G H:=by
 have hl:=l.length
 unfold L2.start;refine⟨by simp;omega,sg,gN.refl _,fun i s e=>?_,fun i j p q a e1 _ _ _=>?_,tb,tb⟩
 ·by_cases hi:i<as.length
  ·rw [List.getElem?_append_left (by simpa using hi),List.getElem?_map] at e;obtain⟨p,hp,rfl⟩:=Option.map_eq_some_iff.mp e
   obtain⟨v,hv,rv⟩:=l.getP hp
   exact⟨some v,by rw [List.getElem?_append_left (by simpa using (show i<vs.length by omega)),List.getElem?_map,hv];rfl,v,rfl,rv⟩
  ·rw [List.getElem?_append_right (by simpa using hi),List.getElem?_replicate] at e;split at e
   ·rename_i h2;cases e;rw [zzl] at h2;exact⟨none,by rw [List.getElem?_append_right (by simp;omega),List.getElem?_replicate,if_pos (by rw [zzl];omega)],trivial⟩
   ·cases e
 ·exfalso
  by_cases hi:i<as.length
  ·rw [List.getElem?_append_left (by simpa using hi),List.getElem?_map] at e1;obtain⟨p,hp,e⟩:=Option.map_eq_some_iff.mp e1
   cases e
  ·rw [List.getElem?_append_right (by simpa using hi),List.getElem?_replicate] at e1;split at e1<;>cases e1
theorem SR.putFn{H0 G H:Hp}{env:Sl}{σ:St}{g:Str}{idx:List Nat}{cL:List PV}{v:V}(i:Nat)(r:SR W H0 env σ G H)(h:nJ W G g idx cL v):SR W H0 (env.set i (.fn g idx cL)) (σ.set i (some v)) G H where
 len:=by simpa using r.len
 sub:=r.sub
 base:=r.base
 tab:=r.tab
 tab0:=r.tab0
 slot:=fun j s e=>by
  by_cases hj:i=j
  ·subst hj;have cq:i<env.length:=by
    have:=(List.getElem?_eq_some_iff.mp e).1
    simpa using this
   rw [List.getElem?_set_self cq] at e;cases e;exact⟨some v,List.getElem?_set_self (by rw [←r.len];exact cq),v,rfl,h⟩
  ·rw [List.getElem?_set_ne hj] at e;obtain⟨o,h1,h2⟩:=r.slot j s e
   exact⟨o,by rw [List.getElem?_set_ne hj];exact h1,h2⟩
 apart:=fun a b q q' ad e1 e2 e3 e4=>by
  have ne:∀{c:Nat} {q:PV},(env.set i (.fn g idx cL))[c]?=some (.own q)→i≠c:=fun{c q} e z=>by
   subst z;have cq:i<env.length:=by
    have:=(List.getElem?_eq_some_iff.mp e).1
    simpa using this
   rw [List.getElem?_set_self cq] at e;cases e
  have n1:=ne e1
  have n2:=ne e2
  rw [List.getElem?_set_ne n1] at e1 e3;rw [List.getElem?_set_ne n2] at e2 e4;exact r.apart a b q q' ad e1 e2 e3 e4
theorem tY{α:Type}{l r:List α}{a b:α}:(l++a::r).set l.length b=l++b::r:=by
 rw [List.set_append_right _ _ (Nat.le_refl _),Nat.sub_self];rfl
theorem vh{d:Def}{H G:Hp}{as:List PV}{vs:List V}(JU:d.np≤d.N.length)(sg:aF G H)(tb:cD W G H)(l:wX W G d.clo as vs)(hv:vs.length=d.np):ae d as=true∧SR W H (aa d as) (start d.N vs) G H:=by
 unfold ae aa;cases hc:d.clo with
 |none=>
  rw [hc] at l;have l:ak W G as vs:=l
  exact⟨by rw [←l.length,hv];simp,pT sg tb l (by rw [←l.length,hv];exact JU)⟩
 |some q=>
  rw [hc] at l;obtain⟨uJ,cL,sN,v,rfl,rfl,l1,cr⟩:=l
  have Hg:=l1.length
  have hn:sN.length=d.np-1∧0<d.np:=by rw [List.length_append] at hv;simp at hv;omega
  have ha:uJ.length=d.np-1:=by omega
  refine⟨by simp;omega,?_⟩;have h0:=pT (N:=d.N) sg tb l1 (by omega)
  have h1:=h0.putFn uJ.length cr
  have e1:(uJ.map Slot.val++List.replicate (d.N.length-uJ.length) Slot.no).set uJ.length (.fn q.1 q.2 cL)=((uJ++cL).take (d.np-1)).map .val++.fn q.1 q.2 ((uJ++cL).drop (d.np-1))::List.replicate (d.N.length-d.np) Slot.no:=by
   rw [←ha,List.take_left',List.drop_left',show d.N.length-uJ.length=(d.N.length-d.np)+1 by omega,List.replicate_succ]
   ·have:=tY (l:=uJ.map Slot.val) (r:=List.replicate (d.N.length-d.np) Slot.no) (a:=Slot.no) (b:=.fn q.1 q.2 cL)
    rw [zzl] at this;exact this
   ·rfl
   ·rfl
  have e2:(start d.N sN).set uJ.length (some v)=start d.N (sN++[v]):=by
   unfold L2.start;rw [List.length_append,List.length_singleton,show d.N.length-sN.length=(d.N.length-(sN.length+1))+1 by omega,List.replicate_succ,←Hg];have:=tY (l:=sN.map some) (r:=List.replicate (d.N.length-(sN.length+1)) none) (a:=none) (b:=some v)
   rw [zzl] at this;rw [this];simp
  rw [e1,e2] at h1;exact h1
theorem C8(M:r8 K mg Γ W)(KB:K.In base){F:aV}{k:Nat}{n nf:Str}{d:Def}{st:Stmt}{fa:Addr}{fd:FuncData}(St:cx Γ n d st)(Fu:Jj K n n st fa fd)(hF:∀f,Γ.fs.contains f=true→ni P w K mg base W F k f)(hH:∀q∈Γ.hs,EO P w K mg base W F k q)(hA:∀g as,F g as≠.bad→Γ.fs.contains g=true∨gC g=true)
 (hL:Γ.hl=true→∃c p,fd.code=.ref c∧CodeK K c p∧(p,lamQ n)∈W.ts∧∀q',(p,q')∈W.ts→q'=lamQ n):
 fD P w K mg base (dy P w) (k+2) fa fd (d.N.take d.np) (wu W (fun _ as=>af F d as) nf (d.N.take d.np).length d.clo):=by
 have hlen:(d.N.take d.np).length=d.np:=by rw [List.length_take];have:=St.np;omega
 obtain⟨oc,od,kV,doc,pm,an,eZ,ct,rK,rfl,lk,rZ⟩:=Fu.ex
 refine HG lk rZ St.sc (fun vs H Q E h=>h.1) fun A outer s H vs Q E hr h=>?_
 obtain⟨hl,G,as,sg,tb,l,o⟩:=h
 rw [hlen] at hl;obtain⟨ar,sr⟩:=vh St.np sg tb l hl
 refine⟨L6 W F H E d.body,jZ (Dt M KB St.sc hF hH hA hL hr) d.body _ St.chk,G,aa d as,sr,?_⟩;dsimp only at o;unfold af at o;rw [if_pos ar] at o;cases r:ah F d.body (aa d as) with
 |bad=>rw [r] at o;exact o
 |exc c=>rw [r] at o;exact o
 |ok fl=>
  rw [r] at o;cases fl with
  |nx env=>exact fun σ' G' H' sr g=>o .non G' H' g .n
  |rt p=>exact fun v G' H' rv g=>o v G' H' g rv
  |bk env=>exact o.elim
  |ct env=>exact o.elim
def AllK(K:PySem.W.Frag)(ts:List (Addr×Str))(Γ:Pg):d5→Prop
 |[]=>True
 |r::l=>EntK K ts r.hl r.h r.st∧cx (Γ.at l r.hl) r.h r.d r.st∧((l.map (·.f)).contains r.f=false∧(r.d.clo.isNone==!gC r.f)=true∧(r.d.clo.isNone=true→r.f=r.h))∧AllK K ts Γ l
theorem tP(M:r8 K mg Γ W)(l:d5)(hl:Bool):r8 K mg (Γ.at l hl) W:=⟨M.hK,M.hm,M.gs,M.bs,M.nov,M.cls,M.xc,M.xs,M.rm,M.exm,M.bm⟩
theorem ni.mono{F:aV}{j k:Nat}{f:Str}(h:ni P w K mg base W F j f)(hk:j≤k):ni P w K mg base W F k f:=by
 obtain⟨fa,fd,ps,h1,h2⟩:=h.ex
 exact⟨fa,fd,ps,h1.mono hk,h2⟩
theorem kJ{F F':aV}{f f':Str}{n:Nat}{q:Option (Str×List Nat)}(e:∀as,F' f' as=F f as):wu W F' f' n q=wu W F f n q:=by
 funext vs H Q E
 unfold wu;simp only [e]
theorem ni.swap{F F':aV}{k:Nat}{f:Str}(h:ni P w K mg base W F k f)(e:∀as,F' f as=F f as):ni P w K mg base W F' k f:=by
 obtain⟨fa,fd,ps,h1,h2,h3,h4,h5⟩:=h.ex
 refine⟨fa,fd,ps,?_,h2,h3,h4,fun as hn=>h5 as (by rw [←e];exact hn)⟩
 rw [kJ e];exact h1
theorem EO.swap{F F':aV}{j k:Nat}{q:Hs}(h:EO P w K mg base W F j q)(hk:j≤k)(e:∀as,F' q.f as=F q.f as):EO P w K mg base W F' k q:=by
 obtain⟨fa,fd,ps,h1,h2,h3,h4,h5⟩:=h.ex
 refine⟨fa,fd,ps,?_,h2,h3,h4,h5⟩;rw [kJ e];exact h1.mono hk
theorem ji{r:Row}{l:d5}{g:Str}(h:(g==r.f)=false)(as:List PV):den (tab (r::l)) g as=den (tab l) g as:=by
 show(if(g==r.f)=true then _ else _)=_
 rw [h]
 rfl
theorem qh{r:Row}{l:d5}(as:List PV):den (tab (r::l)) r.f as=af (den (tab l)) r.d as:=by
 show(if(r.f==r.f)=true then _ else _)=_
 rw [beq_self_eq_true]
 rfl
theorem mL:∀(l:d5) {ts:List (Addr×Str)},AllK K ts Γ l→∀g as,den (tab l) g as≠.bad→(k7 l).contains g=true∨gC g=true
 |[],_,_,g,as,h=>absurd rfl h
 |r::l,ts,⟨_,_,⟨_,hn,_⟩,hr⟩,g,as,h=>by
  by_cases e:(g==r.f)=true
  ·have e2:=beq_iff_eq.mp e
   subst e2;cases hc:r.d.clo with
   |none=>
    left
    unfold k7;rw [List.filterMap_cons,hc];simp
   |some q=>
    right
    rw [hc] at hn
    simpa using hn
  ·rw [ji (by simpa using e)] at h;rcases mL l hr g as h with z|z
   ·left
    unfold k7 at z⊢;rw [List.filterMap_cons];split
    ·exact z
    ·rw [List.contains_cons,z,Bool.or_true]
   ·exact .inr z
theorem zq(M:r8 K mg Γ W)(KB:K.In base)(G:base.Ns mainGlobals mg):∀(l:d5),AllK K W.ts Γ l→(∀f,(k7 l).contains f=true→ni P w K mg base W (den (tab l)) (2*l.length) f)∧∀q∈vK l,EO P w K mg base W (den (tab l)) (2*l.length) q
 |[],_=>⟨fun f hf=>by simp [k7] at hf,fun q hq=>by simp [vK] at hq⟩
 |r::l,w4=>by
  obtain⟨he,hs,⟨hfr,hnm,hfh⟩,hr⟩:=w4
  obtain⟨ih,ihH⟩:=zq M KB G l hr
  obtain⟨fa,oc,od,kV,doc,pm,an,eZ,ct,rK,e1,e2,e3,e4,e5⟩:=he
  have Fu:=xR (st:=r.st) e2 e3 e4
  have ok:=C8 (P:=P) (w:=w) (nf:=r.f) (tP M l r.hl) KB (k:=2*l.length) hs Fu (fun g hg=>ih g hg) (fun q hq=>ihH q hq) (mL l hr) e5
  have AA:∀g,(l.map (·.f)).contains g=true→(g==r.f)=false:=fun g hg=>by
   cases z:g==r.f with
   |false=>rfl
   |true=>rw [beq_iff_eq.mp z,hfr] at hg;cases hg
  have sp:wu W (fun _ as=>af (den (tab l)) r.d as) r.f (r.d.N.take r.d.np).length r.d.clo=wu W (den (tab (r::l))) r.f (r.d.N.take r.d.np).length r.d.clo:=kJ fun as=>(qh as).symm
  rw [sp] at ok;have hlen:(r.d.N.take r.d.np).length=r.d.np:=by rw [List.length_take];have:=hs.np;omega
  have ml:∀f,(k7 l).contains f=true→(l.map (·.f)).contains f=true:=fun f hf=>by
   rw [List.contains_iff_mem] at hf⊢;unfold k7 at hf;obtain⟨x,hx,e⟩:=List.mem_filterMap.mp hf
   split at e
   ·cases e;exact List.mem_map_of_mem (f:=(·.f)) hx
   ·cases e
  refine⟨fun f hf=>?_,fun q hq=>?_⟩
  ·by_cases qi:(f==r.f)=true∧r.d.clo=none
   ·obtain⟨h1,h2⟩:=qi
    have e:=beq_iff_eq.mp h1
    subst e;refine⟨fa,_,r.d.N.take r.d.np,by rw [h2] at ok;exact ok,?_,e4,Fu.binds hs.bind,fun as hn=>?_⟩
    ·rw [hfh (by rw [h2];rfl)];exact PySem.W.mg_of KB G e1
    ·rw [qh] at hn;unfold af at hn
     by_cases ha:ae r.d as=true
     ·unfold ae at ha;rw [h2] at ha;rw [hlen];exact beq_iff_eq.mp ha
     ·rw [if_neg ha] at hn;exact absurd rfl hn
   ·have Mt:(k7 l).contains f=true:=by
     unfold k7 at hf⊢;rw [List.filterMap_cons] at hf;split at hf
     ·exact hf
     ·rename_i y hy;split at hy
      ·rename_i hc;cases hy;rw [List.contains_cons,Bool.or_eq_true] at hf;rcases hf with z|z
       ·exact absurd ⟨z,Option.isNone_iff_eq_none.mp hc⟩ qi
       ·exact z
      ·cases hy
    exact((ih f Mt).mono (by rw [List.length_cons];omega)).swap fun as=>ji (AA f (ml f Mt)) as
  ·unfold vK at hq;rw [List.filterMap_cons] at hq;have tail:q∈vK l→EO P w K mg base W (den (tab (r::l))) (2*(r::l).length) q:=fun hq=>by
    refine(ihH q hq).swap (by rw [List.length_cons];omega) fun as=>ji (AA q.f ?_) as
    unfold vK at hq;obtain⟨x,hx,e⟩:=List.mem_filterMap.mp hq
    obtain⟨y,_,rfl⟩:=Option.map_eq_some_iff.mp e
    rw [List.contains_iff_mem];exact List.mem_map_of_mem (f:=(·.f)) hx
   cases hc:r.d.clo with
   |none=>rw [hc] at hq;exact tail hq
   |some y=>
    rw [hc] at hq;rcases List.mem_cons.mp hq with z|z
    ·subst z;rw [hc] at ok;exact⟨fa,_,r.d.N.take r.d.np,ok,PySem.W.mg_of KB G e1,e4,Fu.binds hs.bind,hlen⟩
    ·exact tail z
end
end Ci
namespace L2
open PySem PySem.Spec PyProof.Rows
theorem vn{P:Program}{w:World}{K:PySem.W.Frag}{mg mb:Str→Option Value}{CX:qE}{k:Nat}{fa a:Addr}{fd:FuncData}{x:Str}{sp:Sp}{s₁:Shared}{vs:List Value}{ns:List Int}(jv:List Addr)
 (KX:K.In s₁.heap) (Jo:s₁.heap.Ns mainGlobals mg) (hb:s₁.heap.Ns builtinsNs mb) (NT:∀x:Str,x≠"__name__"→mb x=bootBuiltins x) (vf:s₁.heap.NoLimit) (hg:s₁.gens=#[])
 (hT:∀p∈jv,s₁.heap.get? p=some (PySem.W.tabObj #[])) (hC:∀p∈jv,∃c,Ci.CodeK K c p) (Nx:∀p∈jv,K.lookup p=none)
 (ha:s₁.heap.get? a=some {cls:=.type "list",data:=.seq vs.toArray}) (hi:IntsAre vs ns) (hl:ns.length≤sizeLine) (hr:di k callerA)
 (F:∀base:Heap,K.In base→base.Ns mainGlobals mg→fD P w K mg base CX k fa fd [x] sp) (Ie:∀(s:Shared) (u:Value),BindsTo s fd ⟨[u],[]⟩ [(x,u)])
 (Dl:∀H:Hp,(∀p∈jv,H p=some (.tbl #[]))→Ci.LsR K H a (ns.map V.int)→sp [.ref a] H (fun v _=>v=.bl true) fun _ _ _=>False)
 (Lj:∀H e s',CX [] H s₁ (fun _ _ _=>False) e s'→False):
 codeAny (model P w) callerA (.call (.ref fa) ⟨[.ref a],[]⟩) (fun r s'=>r=.ok (.ret (.bool true))∧OldK s₁.heap s'.heap∧s'.os=s₁.os∧AllBare s'.gens) s₁:=by
 have rv:=mJ hi
 have GX:=hi.length
 have aT:a∉jv:=fun z=>by have:=hT a z;rw [ha] at this;cases this
 have core:∀H:Hp,(∀p∈jv,H p=some (.tbl #[]))→Ci.LsR K H a (ns.map V.int)→dG P w H s₁.heap→(∀b,H b≠none→b∈jv∨b=a∧∃o xs,H b=some (.frz o xs))→(H a≠none→K.lookup a=none)→
  codeAny (model P w) callerA (.call (.ref fa) ⟨[.ref a],[]⟩) (fun r s'=>r=.ok (.ret (.bool true))∧OldK s₁.heap s'.heap∧s'.os=s₁.os∧AllBare s'.gens) s₁:=by
  intro H hO hS hok hA hK;have tH:∀{b:Addr} {o:Obj},s₁.heap.get? b=some o→H b=none→(nu s₁.heap H).get? b=some o:=fun e n=>yo e n
  have B1:∀{b:Addr} {o:Obj} {es:Array DictEntry} {ep:Nat},s₁.heap.get? b=some o→o.data=.dict es ep→H b=none:=fun{b o es ep} e d=>by
   cases q:H b with
   |none=>rfl
   |some u=>
    rcases hA b (by rw [q];simp) with z|⟨z,_⟩
    ·rw [hT b z] at e;cases e;cases d
    ·subst z;rw [ha] at e;cases e;have d':Data.seq vs.toArray _=Data.dict es ep:=d
     cases d'
  have Jp:∀{b:Addr} {m:Str→Option Value},s₁.heap.Ns b m→(nu s₁.heap H).Ns b m:=fun{b m} ⟨o,es,ep,e,d,r⟩=>⟨o,es,ep,tH e (B1 e d),d,r⟩
  have Ma:K.In (nu s₁.heap H):=fun b o e=>tH (KX b o e) (by
   cases q:H b with
   |none=>rfl
   |some u=>
    rcases hA b (by rw [q];simp) with z|⟨z,_⟩
    ·rw [Nx b z] at e;cases e
    ·subst z;rw [hK (by rw [q];simp)] at e;cases e)
  have hM:Mod K mg (nu s₁.heap H):=⟨Ma,Jp Jo,⟨mb,Jp hb,NT⟩,let⟨mc,h1,h2⟩:=vf;⟨mc,Jp h1,h2⟩⟩
  have e0:gY P w K mg (nu s₁.heap H) callerA [] s₁ H:=⟨rfl,hM,fun b o e=>Bq e,Nat.le_of_eq (uV _ _),trivial,fun b hb=>absurd (show b∈([]:List Addr) from hb) (by simp),hok,.of_eq hg⟩
  refine codeAny_mono ((F _ Ma (Jp Jo)).run callerA [] s₁ H ⟨[.ref a],[]⟩ [.ref a] [.ref a] _ _ hr e0 (Ie s₁ (.ref a)) (.cons rfl .nil) (Dl H hO hS)) fun r s' h=>?_
  cases r with
  |error e=>exact(Lj H e s' h).elim
  |ok fl=>
   cases fl with
   |next=>exact False.elim h
   |brk=>exact False.elim h
   |cont=>exact False.elim h
   |ret u=>
    obtain⟨v,H',os,bare,un,Aw,r',q⟩:=h
    have q':v=.bl true:=q
    subst q';obtain rfl:u=Value.bool true:=r'
    have key:∀b o,s₁.heap.get? b=some o→s'.heap.get? b=some o∨b∈jv∧∃m,s'.heap.get? b=some (PySem.W.tabObj m):=fun b o e=>by
     cases q:H b with
     |none=>exact .inl (un.keep b o e q (by intro z;exact absurd (show b∈([]:List Addr) from z) (by simp)) (by simp))
     |some u=>
      rcases hA b (by rw [q];simp) with z|⟨z,ob,xs,z2⟩
      ·right
       obtain⟨m,hm⟩:=un.tbls b _ (hO b z)
       exact⟨z,_,Aw b _ hm⟩
      ·left
       have z3:=un.frzs b ob _ z2
       obtain⟨e1,_⟩:=hok b _ z2
       obtain⟨e2,_⟩:=Aw b _ z3
       rw [e] at e1;cases e1;exact e2
    refine⟨rfl,⟨fun b o e=>?_,fun b o e=>?_⟩,os,bare⟩
    ·rcases key b o e with z|⟨z,m,z2⟩
     ·exact .inl z
     ·have e':=hT b z
      rw [e] at e';cases e';obtain⟨c,o',BO,_,_,_,_,_,_,_,k1,k2,k3,k4,_⟩:=hC b z
      have tb:s₁.heap.TableAt c b #[]:=⟨⟨o',BO,KX _ _ k1,k2,k3,k4⟩,e⟩
      exact .inr (.inl ⟨tb.isCodeTable,rfl,#[],m,rfl,by rw [z2];simp⟩)
    ·rcases key b o e with z|⟨_,m,z⟩
     ·exact⟨_,z⟩
     ·exact⟨_,z⟩
 cases hk:K.lookup a with
 |some o=>
  have e:=KX a o hk
  rw [ha] at e;cases e;refine core (fun b=>if b∈jv then some (.tbl #[]) else none) (fun p hp=>if_pos hp) (.inr ⟨vs.toArray,_,hk,by rw [List.size_toArray,GX];exact hl,by simpa using rv⟩) (fun b u z=>?_) (fun b z=>?_) fun z=>absurd (if_neg aT) z
  ·by_cases hb:b∈jv
   ·have z':=(if_pos hb).symm.trans z
    cases z';exact hT b hb
   ·have z':=(if_neg hb).symm.trans z
    cases z'
  ·by_cases hb:b∈jv
   ·exact .inl hb
   ·exact absurd (if_neg hb) z
 |none=>
  refine core (fun b=>if b=a then some (.frz {cls:=.type "list",data:=.seq vs.toArray} (.lst (ns.map V.int))) else if b∈jv then some (.tbl #[]) else none) (fun p hp=>?_) (.inl (.inr ⟨{cls:=.type "list",data:=.seq vs.toArray},if_pos rfl⟩)) (fun b u z=>?_) (fun b z=>?_) fun _=>hk
  ·show(if p=a then _ else _)=_
   rw [if_neg (show¬p=a from fun z=>aT (by rw [←z];exact hp)),if_pos hp]
  ·by_cases hb:b=a
   ·have z':=(if_pos hb).symm.trans z
    cases z';subst hb;exact⟨ha,by rw [zzl];exact hl,vs,_,rv,ha⟩
   ·replace z:=(if_neg hb).symm.trans z
    by_cases hc:b∈jv
    ·have z':=(if_pos hc).symm.trans z
     cases z';exact hT b hc
    ·have z':=(if_neg hc).symm.trans z
     cases z'
  ·by_cases hb:b=a
   ·exact .inr ⟨hb,_,_,if_pos hb⟩
   ·by_cases hc:b∈jv
    ·exact .inl hc
    ·exact absurd ((if_neg hb).trans (if_neg hc)) z
theorem walk_L{l:PySem.W.OpenLaw}{n k:Nat}{q:Program}{loose:List Str}{XP:(Str→Option Value)→Heap→Prop}{YP:World→Heap→Prop}{d:DefRec}{K:Params→PySem.W.Frag}{CX:World→qE}{sp:World→Sp}{x:Str}(jv:List Addr)
 (hn:l.most=some n) (CS:n≤sizeLine) (HC:d.params.defaults=[]) (hr:di k callerA)
 (hY:∀(w:World) (h:Heap),YP w h→(K w.params).In h∧∀p∈jv,h.get? p=some (PySem.W.tabObj #[])) (hC:∀(w:World),∀p∈jv,(∃c,Ci.CodeK (K w.params) c p)∧(K w.params).lookup p=none)
 (F:∀(w:World) (mg:Str→Option Value) (fa:Addr) (h:Heap),(K w.params).In h→h.Ns mainGlobals mg→mg d.name=some (.ref fa)→
  ∃fd:FuncData,(∀(s:Shared) (u:Value),BindsTo s fd ⟨[u],[]⟩ [(x,u)])∧
   ∀base:Heap,(K w.params).In base→base.Ns mainGlobals mg→fD l.prog w (K w.params) mg base (CX w) k fa fd [x] (sp w))
 (Dl:∀(w:World) (H:Hp) (a:Addr) (ns:List Int),ns.length≤n→(∀p∈jv,H p=some (.tbl #[]))→Ci.LsR (K w.params) H a (ns.map V.int)→sp w [.ref a] H (fun v _=>v=.bl true) fun _ _ _=>False)
 (Lj:∀(w:World) (H:Hp) (s:Shared) (e:Value) (s':Shared),CX w [] H s (fun _ _ _=>False) e s'→False):
 PySem.W.WalkO q loose XP YP l.row.toRowW d [] (fun f vs=>PySem.call f vs):=by
 refine Att.attach_call hn HC fun w s₀ s₁ mg mb fa o pm cd doc a vs ns G Y ho hd rZ hmg hobj hints hlen hg=>?_
 obtain⟨KX,hT⟩:=hY w _ Y
 obtain⟨fd,hb,hF⟩:=F w mg fa _ KX G.T.g hmg
 exact vn jv KX G.T.g G.T.b G.T.builtins G.T.nolimit hg hT (fun p hp=>(hC w p hp).1) (fun p hp=>(hC w p hp).2) hobj hints (Nat.le_trans hlen CS) hr hF hb (fun H hO hS=>Dl w H a ns hlen hO hS) fun H e s'=>Lj w H s₁ e s'
end L2
namespace Ci
open PySem L2
theorem km{W:Wd}{G:Hp}:∀(ns:List Int),ak W G (ns.map PV.int) (ns.map V.int)
 |[]=>.nil
 |n::ns=>.cons .i (km ns)
def mn(H:Hp):Hp:=fun b=>match H b with
 |some (.tbl _)=>none
 |o=>o
theorem r9(H:Hp):aF (mn H) H:=fun b o e=>by
 unfold mn at e;split at e
 ·cases e
 ·exact e
theorem oM{H:Hp}{b:Addr}{o:HO}(h:H b=some o)(n:∀ps,o≠.tbl ps):mn H b=some o:=by
 unfold mn;rw [h];cases o with
 |tbl ps=>exact absurd rfl (n ps)
 |_=>rfl
noncomputable def ID(K:PySem.W.Frag)(jv:List Addr):Sp:=fun vs H Q _=>∃(a:Addr) (ns:List Int),vs=[.ref a]∧(∀p∈jv,H p=some (.tbl #[]))∧LsR K H a (ns.map V.int)∧ns.length≤63∧∀H',Q (.bl true) H'
theorem walk{l:PySem.W.OpenLaw}{q:Program}{loose:List Str}{XP:(Str→Option Value)→Heap→Prop}{YP:World→Heap→Prop}{d:DefRec}{K:Params→PySem.W.Frag}(rest:d5)(Γ:Pg)(x:Str)(dl:Def)(xs:List Str)(ts:List (Addr×Str))(st:Stmt)
 (hx:dl.N.take dl.np=[x]) (CU:dl.clo=none) (OP:d.name="law") (hn:l.most=some 63) (HC:d.params.defaults=[]) (hr:di (2*rest.length+2) callerA) (hY:∀(w:World) (h:Heap),YP w h→(K w.params).In h∧∀p∈ts.map (·.1),h.get? p=some (PySem.W.tabObj #[]))
 (hC:∀(w:World),∀p∈ts.map (·.1),(∃c,CodeK (K w.params) c p)∧(K w.params).lookup p=none)
 (hM:∀(w:World) (mg:Str→Option Value) (h:Heap),(K w.params).In h→h.Ns mainGlobals mg→r8 (K w.params) mg Γ ⟨K w.params,mg,xs,ts⟩)
 (hE:∀w:World,EntK (K w.params) ts false "law" st) (hS:cx (Γ.at rest false) "law" dl st)
 (hA:∀w:World,AllK (K w.params) ts Γ rest)
 (JQ:∀ns:List Int,ns.length≤63→af (den (tab rest)) dl [.lst (ns.map .int)]=.ok (.bl true)):
 PySem.W.WalkO q loose XP YP l.row.toRowW d [] (fun f vs=>PySem.call f vs):=by
 refine L2.walk_L (n:=63) (k:=2*rest.length+2) (x:=x) (CX:=fun w=>dy l.prog w) (sp:=fun w=>ID (K w.params) (ts.map (·.1))) (ts.map (·.1)) hn (by decide) HC hr hY hC ?_ ?_ ?_
 ·intro w mg fa h KX G hmg;rw [OP] at hmg;obtain⟨f,oc,od,kV,doc,pm,an,eZ,ct,rK,e1,e2,e3,e4,e5⟩:=hE w
  have hf:fa=f:=by
   have z:=hmg.symm.trans (PySem.W.mg_of KX G e1)
   cases z
   rfl
  subst hf;refine⟨PySem.W.fnOf "law" "law" (defArgs st) (defBody st) (defScope st) .none kV doc pm an eZ ct,fun s u=>?_,fun base KB GB=>?_⟩
  ·have hb:=hS.bind kV doc pm an eZ ct [u]
   rw [hx] at hb;exact .of_eq (hb rfl)
  ·have M:=hM w mg base KB GB
   obtain⟨a1,a2⟩:=zq (P:=l.prog) (w:=w) M KB GB rest (hA w)
   have ok:=C8 (P:=l.prog) (w:=w) (nf:="law") (tP M rest false) KB (k:=2*rest.length) hS (xR (st:=st) e2 e3 e4) (fun g hg=>a1 g hg) (fun q hq=>a2 q hq) (mL rest (hA w)) (fun z=>nomatch z)
   rw [hx] at ok;refine ok.imp fun vs H Q E h=>?_
   obtain⟨a,ns,rfl,ht,hl,hlen,q⟩:=h
   refine⟨rfl,mn H,[.lst (ns.map .int)],r9 H,fun P q m=>?_,?_,?_⟩
   ·have hP:=ht P (List.mem_map_of_mem (f:=(·.1)) m)
    refine⟨by unfold mn;rw [hP],#[],hP,trivial,fun pos cv e=>nomatch e⟩
   ·rw [CU];refine ak.cons (.l ?_ (km ns)) .nil;rcases hl with(h|⟨o,h⟩)|h
    ·exact .inl (.inl (oM h (fun _ z=>nomatch z)))
    ·exact .inl (.inr ⟨o,oM h (fun _ z=>nomatch z)⟩)
    ·exact .inr h
   ·dsimp only;rw [JQ ns hlen];intro v G' H' _ rv;simp only [Rep] at rv;subst rv;exact q H'
 ·intro w H a ns hlen hO Ab;exact⟨a,ns,rfl,hO,Ab,hlen,fun _=>rfl⟩
 ·intro w H s e s' h;obtain⟨a,C,t,vs,H',B,rfl,F⟩:=h
  exact F.ends
end Ci
namespace Hd
open PySem PySem.W PySem.Calls
noncomputable def EL(st:SharedT→Thread→Option (SharedT×Thread))(ok:Thread→Bool)(n:Nat):SharedT→Thread→Option SharedT:=
 @Nat.rec (fun _=>SharedT→Thread→Option SharedT) (fun _ _=>none) (fun _ ih s t=>match through t with
  |true=>some s
  |false=>match ok t with
   |false=>none
   |true=>match st s t with
    |some (s',t')=>ih s' t'
    |none=>none) n
theorem lP{tb:String→Option Builtin}{p:Program}{w:World}{n₀:Nat}{ann:Option Value}:∀{n:Nat} {s s':SharedT} {t:Thread},EL (stepT (denote tb) p w) (stepOk n₀ ann) n s t=some s'→topRun tb p w n₀ ann n s.abs t=some s'.abs
 |0,_,_,_,h=>by cases h
 |n+1,s,s',t,h=>by
  have h:(match through t with
   |true=>some s
   |false=>match stepOk n₀ ann t with
    |false=>none
    |true=>match stepT (denote tb) p w s t with
     |some (s',t')=>EL (stepT (denote tb) p w) (stepOk n₀ ann) n s' t'
     |none=>none)=some s':=h
  unfold topRun;cases ht:through t with
  |true=>rw [ht] at h;cases h;rfl
  |false=>
   rw [ht] at h;cases hk:stepOk n₀ ann t with
   |false=>rw [hk] at h;cases h
   |true=>
    rw [hk] at h;cases hs:stepT (denote tb) p w s t with
    |none=>rw [hs] at h;cases h
    |some r=>obtain⟨s₂,t₂⟩:=r;rw [hs] at h;rw [stepT_spec hs];exact lP h
def treeOf(l:List Obj):BT:=(l.foldl (fun(T,i) o=>(BT.ins T i o,i+1)) (BT.nil,0)).1
theorem left_of{p q:Program}{loose:List Str}{Xt:Shared→Bool}{α:Type}{Yf:Shared→α}{Ya:World→α}{N:Nat}{g0:Bool}{T₀:Params→BT}{life:Life}{m₀:Nat}{ann:Option Value}{M:Nat}
 (e:opening p=plainProg p.main.scope.names) (hN:Nat.ble 600 N=true) (f:∀s,fenceModules? p s=some s)
 (e0:∀P:Params,absHeap (T₀ P) m₀ life=boot_heap P)
 (size:∀w:World,((boot_heap w.params).isNs mainGlobals,(boot_heap w.params).nsMap mainGlobals "__annotations__")=(true,ann))
 (le:Nat.ble M N=true)
 (run:∀(w:World) (os:OsState),(EL (stepT (denote treeTable) p w) (stepOk m₀ ann) M ⟨T₀ w.params,m₀,life,Array.mk [],boot_drawn,boot_toks,os⟩ (topStub p)).map (fun s=>
  ((staticsOk (importedModules p.main.body) (boot_heap w.params) s.abs.heap&&namesBound p s.abs.heap&&gensDone s.abs&&laidKept (boot_heap w.params) s.abs.heap),openSeen q loose (importedModules p.main.body) Xt g0 s.abs,Yf s.abs))
  =some (true,openGood q loose,Ya w)):LeftO p q loose Xt Yf Ya N g0:=fun w=>by
 obtain⟨⟨h,gs,d,k,os⟩,e1,e'⟩:=Option.map_eq_some_iff.mp (boot_open e hN f w)
 obtain⟨rfl,rfl,rfl,rfl⟩:h=boot_heap w.params∧gs=Array.mk []∧d=boot_drawn∧k=boot_toks:=by simpa using e'
 obtain⟨z1,z3⟩:_∧_:=by simpa only [Prod.mk.injEq] using size w
 obtain⟨s,r,l⟩:=Option.map_eq_some_iff.mp (run w os)
 obtain⟨l1,l2,l3⟩:_∧_∧_:=by simpa only [Prod.mk.injEq] using l
 have r:=lP r
 have r:=topRun_mono (N-M) _ _ _ _ r
 rw [show M+(N-M)=N by have:=Nat.le_of_ble_eq_true le;omega] at r;have hs:(boot_heap w.params).objs.size=m₀:=by rw [←e0 w.params];exact absHeap_size _ _ _
 have r:topRun treeTable p w m₀ ann N ⟨boot_heap w.params,Array.mk [],boot_drawn,boot_toks,os⟩ (topStub p)=some s.abs:=by
  have:(⟨T₀ w.params,m₀,life,Array.mk [],boot_drawn,boot_toks,os⟩:SharedT).abs=⟨boot_heap w.params,Array.mk [],boot_drawn,boot_toks,os⟩:=by
   show Shared.mk _ _ _ _ _=_
   rw [show absHeap (T₀ w.params) m₀ life=boot_heap w.params from e0 w.params]
  rw [←this];exact r
 have t:topFrom treeTable p w N ⟨boot_heap w.params,Array.mk [],boot_drawn,boot_toks,os⟩=some s.abs:=by
  unfold topFrom;dsimp only;rw [z1,z3,hs,r];show(match staticsOk (importedModules p.main.body) (boot_heap w.params) s.abs.heap&&namesBound p s.abs.heap&&gensDone s.abs&&laidKept (boot_heap w.params) s.abs.heap with|true=>_|false=>_)=_
  rw [l1]
 unfold openEnds;rw [e1];show(topFrom treeTable p w N _).map _=_
 rw [t];exact congrArg some (Prod.ext l2 l3)
end Hd
namespace Hd
open PySem PySem.W
theorem boot0:∀P:Params,absHeap (treeOf (boot_heap P).objs.toList) 11 {}=boot_heap P:=fun P=>by kernel_rfl
theorem boot1:∀w:World,((boot_heap w.params).isNs mainGlobals,(boot_heap w.params).nsMap mainGlobals "__annotations__")=(true,some (.ref 6)):=fun w=>by kernel_rfl
abbrev de(P:Params)(x:Str)(t:Tok)(v:Value):DictEntry:={hash:=PyData.keyHash P x,key:=.str x t,val:=v}
theorem holds{l:OpenLaw}{keep:List Nat}{K:Params→Frag}{as:List Addr}{d:DefRec}{N:Nat}(Lz:l.wellSaid=true)
 (ka:∀P,as=(K P).map (·.1))
 (left:LeftO l.row.prog (view l.row.prog keep) [] (fun s=>xlAt (view l.row.prog keep) [] s&&recOk l.row.toRowW.records s) (kHook K as ka).obs (kHook K as ka).val N)
 (DE:defOf (view l.row.prog keep) l.row.name=some (d,[])) (hp:l.row.prog.theDef l.row.name=some (d.params,d.body,d.scope)) (hk:kwWritten? d.params.kwonlyargs d.params.kw_defaults=some [])
 (ok:(chainsOk (view l.row.prog keep)&&opensWell l.row.prog&&(frees l.row.toRowW&&l.row.within.isEmpty))=true) (hb:l.row.prog.bare) (hw:l.row.toRowW.promised)
 (call:WalkO (view l.row.prog keep) [] (XL (view l.row.prog keep) []) (kHook K as ka).says l.row.toRowW d [] fun f vs=>PySem.call f vs):l.Holds:=
 holds_law Lz fun k1=>holds_open (N:=N) left (Hook.of (kHook K as ka)) (Hook.keeps (kHook K as ka)) (fun s e=>xl_of s (Bool.and_eq_true_iff.mp e).1) XL.keeps DE hp hk (fun s e=>recFacts_of (Bool.and_eq_true_iff.mp e).2) (by cases h:l.row.writes<;>rfl) k1 ok hb hw call
theorem ar1{P:List Value→Prop}(h:∀a0,P [a0]):∀us:List Value,us.length=1→P us
 |[a0],_=>h a0
theorem ar2{P:List Value→Prop}(h:∀a0 a1,P [a0,a1]):∀us:List Value,us.length=2→P us
 |[a0,a1],_=>h a0 a1
theorem ar3{P:List Value→Prop}(h:∀a0 a1 a2,P [a0,a1,a2]):∀us:List Value,us.length=3→P us
 |[a0,a1,a2],_=>h a0 a1 a2
theorem ar4{P:List Value→Prop}(h:∀a0 a1 a2 a3,P [a0,a1,a2,a3]):∀us:List Value,us.length=4→P us
 |[a0,a1,a2,a3],_=>h a0 a1 a2 a3
end Hd
namespace KJ
open PySem L2 Ci
theorem uA{α β:Type}{a:α}{f:α→Res β}:(Res.ok a).bind f=f a:=id rfl
theorem HE{α:Type}{a:α}:(Res.ok a).well=.ok a:=id rfl
theorem Nf{α:Type}{a:α}:Res.of (some a)=.ok a:=id rfl
theorem O0{env:Sl}{k:Sl→Res Fl}:(Fl.nx env).seq k=k env:=id rfl
theorem NA{p:PV}{k:Sl→Res Fl}:(Fl.rt p).seq k=.ok (.rt p):=id rfl
theorem Nc{env:Sl}{k:Sl→Res Fl}:(Fl.bk env).seq k=.ok (.bk env):=id rfl
theorem sv{p:PV}:lJ (some (.val p))=.ok p:=id rfl
theorem OL{p:PV}:xx (some (.val p))=.ok p:=id rfl
theorem OQ{p:PV}:xx (some (.own p))=.ok p:=id rfl
theorem HV{α:Type}{b:Bool}{f:Bool→Res α}:qA (.bl b) f=f b:=id rfl
theorem IY{i j:Int}:binOp .add (.int i) (.int j)=.ok (.int (i+j)):=id rfl
theorem He{i j:Str}:binOp .add (.str i) (.str j)=if i.length+j.length≤dF then .ok (.str (i++j)) else .bad:=id rfl
theorem JX{i j:Int}:binOp .sub (.int i) (.int j)=.ok (.int (i-j)):=id rfl
theorem Lx{i j:Int}:binOp .mul (.int i) (.int j)=if aU i||aU j then .ok (.int (i*j)) else .bad:=id rfl
theorem K0{i j:Int}:binOp .mod (.int i) (.int j)=if 0<j then .ok (.int (i%j)) else .bad:=id rfl
theorem Ko{i j:Int}:binOp .fdiv (.int i) (.int j)=if 0<j∧j<1073741824 then .ok (.int (i/j)) else .bad:=id rfl
theorem NN:c7 .eq=fG:=id rfl
theorem Oj:c7 .ne=iX:=id rfl
theorem O5:c7 .lt=oN:=id rfl
theorem Ng:c7 .le=pZ:=id rfl
theorem NJ:c7 .in_=rn:=id rfl
theorem Kp:c7 .nin=fb:=id rfl
theorem oLt{i j:Int}:oN (.int i) (.int j)=.ok (.bl (decide (i<j))):=id rfl
theorem oLe{i j:Int}:pZ (.int i) (.int j)=.ok (.bl (decide (i≤j))):=id rfl
theorem lL{xs:List PV}:cV .len [.lst xs]=.ok (.int xs.length):=id rfl
theorem lT{xs:List PV}:cV .len [.tup xs]=.ok (.int xs.length):=id rfl
theorem lS{z:Str}:cV .len [.str z]=if z.length≤dF then .ok (.int z.length) else .bad:=id rfl
theorem tL{xs:List PV}:cV .tuple [.lst xs]=.ok (.tup xs):=id rfl
theorem KH{i:Nat}{p:PV}{env:Sl}:(Tg.one i).put p env=.ok (env.set i (.val p)):=id rfl
theorem Ox{i j:Nat}{a b:PV}{env:Sl}:(Tg.two i j).put (.tup [a,b]) env=.ok ((env.set i (.val a)).set j (.val b)):=id rfl
theorem F0{p:PV}:nt (.own p)=.val p:=id rfl
theorem jA{α:Type}{a:α}{as:List α}:(a::as).length=as.length+1:=id rfl
theorem jB{α:Type}:([]:List α).length=0:=id rfl
theorem jC{α β:Type}{f:α→β}{a:α}{l:List α}:(a::l).map f=f a::l.map f:=id rfl
theorem jD{α β:Type}{f:α→β}:([]:List α).map f=[]:=id rfl
theorem jE{α:Type}{a:α}{as bs:List α}:a::as++bs=a::(as++bs):=id rfl
theorem jF{α:Type}{as:List α}:[]++as=as:=id rfl
theorem jG{α:Type}{a:α}{l:List α}:(a::l)[0]?=some a:=id rfl
theorem jH{α:Type}{a:α}{l:List α}{i:Nat}:(a::l)[i+1]?=l[i]?:=id rfl
theorem jI{α:Type}{a b:α}{l:List α}:(a::l).set 0 b=b::l:=id rfl
theorem jJ{α:Type}{a b:α}{l:List α}{i:Nat}:(a::l).set (i+1) b=a::l.set i b:=id rfl
theorem jK{α:Type}{a d:α}{l:List α}:(a::l).getD 0 d=a:=id rfl
theorem jL{α:Type}{a d:α}{l:List α}{i:Nat}:(a::l).getD (i+1) d=l.getD i d:=id rfl
theorem jM{n:Nat}:0+n=n:=Nat.zero_add _
theorem jN:(!true)=false:=id rfl
theorem jO:(!false)=true:=id rfl
theorem jP:(false=true)=False:=Bool.false_eq_true
theorem dW{e:E}{xs:List PV}:va e (.lst xs)=.ok xs:=id rfl
theorem OC{e:E}{xs:List PV}:va e (.tup xs)=.ok xs:=id rfl
theorem LU{xs:List PV}:itemsOf (.tup xs)=.ok xs:=id rfl
theorem Kh{xs:List PV}:itemsOf (.lst xs)=.ok xs:=id rfl
theorem K8{z:Str}:itemsOf (.str z)=.ok (chars z):=id rfl
theorem jQ{α:Type}{f:α→α}{a:α}{l:List α}:(a::l).modify 0 f=f a::l:=id rfl
theorem jR{α:Type}{f:α→α}{a:α}{l:List α}{i:Nat}:(a::l).modify (i+1) f=a::l.modify i f:=by simp
theorem jS{α:Type}{a:α}:List.replicate 0 a=[]:=id rfl
theorem jT{α:Type}{a:α}{n:Nat}:List.replicate (n+1) a=a::List.replicate n a:=id rfl
theorem jU{n:Nat}:(n==n)=true:=beq_self_eq_true n
noncomputable def J:=And.intro @jS (And.intro @jT (And.intro @jU (And.intro @uA (And.intro @HE (And.intro @Nf (And.intro @O0 (And.intro @NA (And.intro @Nc (And.intro @sv (And.intro @OL (And.intro @OQ (And.intro @HV (And.intro @IY (And.intro @He (And.intro @JX (And.intro @Lx (And.intro @K0 (And.intro @Ko (And.intro @NN (And.intro @Oj (And.intro @O5 (And.intro @Ng (And.intro @NJ (And.intro @Kp (And.intro @oLt (And.intro @oLe (And.intro @lL (And.intro @lT (And.intro @lS (And.intro @tL (And.intro @KH (And.intro @Ox (And.intro @F0 (And.intro @jA (And.intro @jB (And.intro @jC (And.intro @jD (And.intro @jE (And.intro @jF (And.intro @jG (And.intro @jH (And.intro @jI (And.intro @jJ (And.intro @jK (And.intro @jL (And.intro @jM (And.intro @jN (And.intro @jO (And.intro @jP (And.intro @dW (And.intro @OC (And.intro @LU (And.intro @Kh (And.intro @K8 (And.intro @jQ (@jR))))))))))))))))))))))))))))))))))))))))))))))))))))))))
theorem aH{n:Str}{d:Def}{r:List (Str×Def)}:den ((n,d)::r) n=af (den r) d:=by
 funext as;simp [den]
theorem FK{n f:Str}{d:Def}{r:List (Str×Def)}(h:(f==n)=false):den ((n,d)::r) f=den r f:=by
 funext as;simp [den,h]
theorem aA{f:Str}:∀(n:Nat) {T:List (Str×Def)},((T.take n).all fun x=>!(f==x.1))=true→den T f=den (T.drop n) f
 |0,_,_=>rfl
 |n+1,[],_=>rfl
 |n+1,(m,d)::r,h=>by
  rw [List.take_succ_cons,List.all_cons,zza,Bool.not_eq_true'] at h;exact(FK h.1).trans (aA n h.2)
end KJ
namespace K12
open PySem L2 Ci KJ
noncomputable def cQ:Def:=⟨["_law_script","_law_k"],2,(.cons (.ite (.cmp .lt (.var 1) (.blt .len (.cons (.var 0) .nil)))
 (.cons (.ret (.sub (.var 0) (.var 1)))
 .nil)
 .nil)
 (.cons (.ite (.cmp .eq (.var 0) (.lst .nil))
  (.cons (.ret (.cst (.int 0)))
  .nil)
  .nil)
 (.cons (.ret (.bin .add (.bin .mul (.sub (.var 0) (.bin .mod (.var 1) (.blt .len (.cons (.var 0) .nil)))) (.cst (.int 31))) (.var 1)))
 .nil))),none⟩
noncomputable def bT:Def:=⟨["_law_script","_law_k","_law_many","_law_drawn"],3,(.cons (.set 3 (.bin .mod (.bin .mul (.bin .add (.call "_law_cell" (.cons (.var 0) (.cons (.var 1) .nil))) (.bin .mul (.cst (.int 6151)) (.bin .add (.var 1) (.cst (.int 1))))) (.cst (.int 40692))) (.cst (.int 2147483399))))
 (.cons (.ret (.bin .mod (.bin .mod (.bin .add (.bin .mul (.var 3) (.var 3)) (.bin .fdiv (.var 3) (.cst (.int 31)))) (.cst (.int 2147483629))) (.var 2)))
 .nil)),none⟩
noncomputable def bZ:Def:=⟨["_law_script","_law_at","_law_most","_law_rows","_law_columns","_law_shuts","_law_top","_law_made","_law_row","_law_signs","_law_column","_law_drawn"],3,(.cons (.set 3 (.bin .add (.cst (.int 1)) (.call "_law_pick" (.cons (.var 0) (.cons (.var 1) (.cons (.var 2) .nil))))))
 (.cons (.set 4 (.bin .add (.cst (.int 1)) (.call "_law_pick" (.cons (.var 0) (.cons (.bin .add (.var 1) (.cst (.int 1))) (.cons (.var 2) .nil))))))
 (.cons (.set 5 (.sub (.lst (.cons (.cst (.int 0)) (.cons (.cst (.int 2)) (.cons (.cst (.int 4)) (.cons (.cst (.int 6)) .nil))))) (.call "_law_pick" (.cons (.var 0) (.cons (.bin .add (.var 1) (.cst (.int 2))) (.cons (.cst (.int 4)) .nil))))))
 (.cons (.set 6 (.sub (.lst (.cons (.cst (.int 1)) (.cons (.cst (.int 2)) (.cons (.cst (.int 3)) (.cons (.cst (.int 10)) .nil))))) (.call "_law_pick" (.cons (.var 0) (.cons (.bin .add (.var 1) (.cst (.int 3))) (.cons (.cst (.int 4)) .nil))))))
 (.cons (.own 7 (.lst .nil))
 (.cons (.for_ (.one 8) (.rng (.var 3))
  (.cons (.set 9 (.cst (.str "")))
  (.cons (.for_ (.one 10) (.rng (.var 4))
   (.cons (.set 11 (.call "_law_pick" (.cons (.var 0) (.cons (.bin .add (.bin .add (.bin .add (.var 1) (.cst (.int 4))) (.bin .mul (.var 2) (.var 8))) (.var 10)) (.cons (.bin .mul (.cst (.int 12)) (.var 6)) .nil)))))
   (.cons (.set 9 (.bin .add (.var 9) (.ite (.cmp .lt (.bin .mod (.var 11) (.cst (.int 12))) (.var 5)) (.cst (.str "#")) (.blt .str (.cons (.bin .fdiv (.var 11) (.cst (.int 12))) .nil)))))
   .nil)))
  (.cons (.app 7 (.var 9))
  .nil))))
 (.cons (.ret (.blt .tuple (.cons (.tmp 7) .nil)))
 .nil))))))),none⟩
noncomputable def cg:Def:=⟨["_law_script","_law_at"],2,(.cons (.ret (.tup (.cons (.cmp .eq (.call "_law_pick" (.cons (.var 0) (.cons (.var 1) (.cons (.cst (.int 2)) .nil)))) (.cst (.int 0))) (.cons (.sub (.lst (.cons (.cst (.int 0)) (.cons (.cst (.int 1)) (.cons (.cst (.int 2)) (.cons (.cst (.int 9)) .nil))))) (.call "_law_pick" (.cons (.var 0) (.cons (.bin .add (.var 1) (.cst (.int 1))) (.cons (.cst (.int 4)) .nil))))) (.cons (.call "_law_pick" (.cons (.var 0) (.cons (.bin .add (.var 1) (.cst (.int 2))) (.cons (.cst (.int 4)) .nil)))) .nil)))))
 .nil),none⟩
noncomputable def b9:Def:=⟨["_law_floor_here","_law_made","_law_row","_law_signs"],1,(.cons (.own 1 (.lst .nil))
 (.cons (.for_ (.two 2 3) (.enum (.var 0))
  (.cons (.extd 1 (.compIf 2 [2] (.two 0 1) (.enum (.var 3)) (.cmp .ne (.var 1) (.cst (.str "#"))) (.tup (.cons (.var 2) (.cons (.var 0) .nil)))))
  .nil))
 (.cons (.frz 1)
 (.cons (.ret (.var 1))
 .nil)))),none⟩
def dE:Def:=⟨["thing"],1,(.cons (.ret (.and (.ty .int (.var 0)) (.not (.ty .bool (.var 0)))))
 .nil),none⟩
noncomputable def dz:Def:=⟨["thing"],1,(.cons (.ret (.and (.ty .tuple (.var 0)) (.and (.cmp .eq (.blt .len (.cons (.var 0) .nil)) (.cst (.int 2))) (.and (.call "is_whole" (.cons (.sub (.var 0) (.cst (.int 0))) .nil)) (.call "is_whole" (.cons (.sub (.var 0) (.cst (.int 1))) .nil))))))
 .nil),none⟩
noncomputable def cb:Def:=⟨["floor","spot"],2,(.cons (.ret (.and (.ch .le .lt (.cst (.int 0)) (.sub (.var 1) (.cst (.int 0))) (.blt .len (.cons (.var 0) .nil))) (.ch .le .lt (.cst (.int 0)) (.sub (.var 1) (.cst (.int 1))) (.blt .len (.cons (.sub (.var 0) (.sub (.var 1) (.cst (.int 0)))) .nil)))))
 .nil),none⟩
noncomputable def cG:Def:=⟨["floor","thing"],2,(.cons (.ret (.and (.call "is_spot" (.cons (.var 1) .nil)) (.and (.call "is_on_floor" (.cons (.var 0) (.cons (.var 1) .nil))) (.cmp .ne (.sub (.sub (.var 0) (.sub (.var 1) (.cst (.int 0)))) (.sub (.var 1) (.cst (.int 1)))) (.glob "WALL" (.str "#"))))))
 .nil),none⟩
noncomputable def bw:Def:=⟨["floor","spot"],2,(.cons (.ite (.not (.call "is_open" (.cons (.var 0) (.cons (.var 1) .nil))))
 (.cons (.raise "NoSpot" "the spot is not on the floor or a wall")
 .nil)
 .nil)
 .nil),none⟩
noncomputable def cH:Def:=⟨["one","other"],2,(.cons (.ret (.and (.cmp .ne (.var 0) (.var 1)) (.and (.cmp .le (.blt .abs (.cons (.bin .sub (.sub (.var 0) (.cst (.int 0))) (.sub (.var 1) (.cst (.int 0)))) .nil)) (.cst (.int 1))) (.cmp .le (.blt .abs (.cons (.bin .sub (.sub (.var 0) (.cst (.int 1))) (.sub (.var 1) (.cst (.int 1)))) .nil)) (.cst (.int 1))))))
 .nil),none⟩
noncomputable def cM:Def:=⟨["floor","spot"],2,(.cons (.expr (.call "need_open" (.cons (.var 0) (.cons (.var 1) .nil))))
 (.cons (.ret (.blt .int (.cons (.sub (.sub (.var 0) (.sub (.var 1) (.cst (.int 0)))) (.sub (.var 1) (.cst (.int 1)))) .nil)))
 .nil)),none⟩
noncomputable def br:Def:=⟨["floor","one","other"],3,(.cons (.ret (.and (.call "is_open" (.cons (.var 0) (.cons (.tup (.cons (.sub (.var 1) (.cst (.int 0))) (.cons (.sub (.var 2) (.cst (.int 1))) .nil))) .nil))) (.call "is_open" (.cons (.var 0) (.cons (.tup (.cons (.sub (.var 2) (.cst (.int 0))) (.cons (.sub (.var 1) (.cst (.int 1))) .nil))) .nil)))))
 .nil),none⟩
noncomputable def bx:Def:=⟨["floor","walker","one","other","is_slanting","rise","flat_cost"],4,(.cons (.ite (.not (.call "are_beside" (.cons (.var 2) (.cons (.var 3) .nil))))
 (.cons (.ret (.cst .non))
 .nil)
 .nil)
 (.cons (.set 4 (.and (.cmp .ne (.sub (.var 2) (.cst (.int 0))) (.sub (.var 3) (.cst (.int 0)))) (.cmp .ne (.sub (.var 2) (.cst (.int 1))) (.sub (.var 3) (.cst (.int 1))))))
 (.cons (.ite (.and (.var 4) (.not (.and (.sub (.var 1) (.cst (.int 0))) (.call "has_open_corners" (.cons (.var 0) (.cons (.var 2) (.cons (.var 3) .nil)))))))
  (.cons (.ret (.cst .non))
  .nil)
  .nil)
 (.cons (.set 5 (.bin .sub (.call "height_at" (.cons (.var 0) (.cons (.var 3) .nil))) (.call "height_at" (.cons (.var 0) (.cons (.var 2) .nil)))))
 (.cons (.ite (.cmp .gt (.blt .abs (.cons (.var 5) .nil)) (.sub (.var 1) (.cst (.int 1))))
  (.cons (.ret (.cst .non))
  .nil)
  .nil)
 (.cons (.set 6 (.ite (.var 4) (.glob "SLANTING_COST" (.int 3)) (.glob "STRAIGHT_COST" (.int 2))))
 (.cons (.ret (.bin .add (.var 6) (.bin .mul (.sub (.var 1) (.cst (.int 2))) (.blt .max2 (.cons (.var 5) (.cons (.cst (.int 0)) .nil))))))
 .nil))))))),none⟩
noncomputable def bj:Def:=⟨["floor","spot","beside","row","column"],2,(.cons (.own 2 (.lst .nil))
 (.cons (.for_ (.one 3) (.rng2 (.bin .sub (.sub (.var 1) (.cst (.int 0))) (.cst (.int 1))) (.bin .add (.sub (.var 1) (.cst (.int 0))) (.cst (.int 2))))
  (.cons (.for_ (.one 4) (.rng2 (.bin .sub (.sub (.var 1) (.cst (.int 1))) (.cst (.int 1))) (.bin .add (.sub (.var 1) (.cst (.int 1))) (.cst (.int 2))))
   (.cons (.ite (.and (.cmp .ne (.tup (.cons (.var 3) (.cons (.var 4) .nil))) (.var 1)) (.call "is_open" (.cons (.var 0) (.cons (.tup (.cons (.var 3) (.cons (.var 4) .nil))) .nil))))
    (.cons (.app 2 (.tup (.cons (.var 3) (.cons (.var 4) .nil))))
    .nil)
    .nil)
   .nil))
  .nil))
 (.cons (.frz 2)
 (.cons (.ret (.var 2))
 .nil)))),none⟩
noncomputable def bM:Def:=⟨["floor","walker","spot","steps","other","cost"],3,(.cons (.expr (.call "need_open" (.cons (.var 0) (.cons (.var 2) .nil))))
 (.cons (.own 3 (.lst .nil))
 (.cons (.for_ (.one 4) (.seq (.call "open_spots_beside" (.cons (.var 0) (.cons (.var 2) .nil))))
  (.cons (.set 5 (.call "step_cost" (.cons (.var 0) (.cons (.var 1) (.cons (.var 2) (.cons (.var 4) .nil))))))
  (.cons (.ite (.cmp .isn (.var 5) (.cst .non))
   (.cons (.app 3 (.tup (.cons (.var 4) (.cons (.var 5) .nil))))
   .nil)
   .nil)
  .nil)))
 (.cons (.frz 3)
 (.cons (.ret (.var 3))
 .nil))))),none⟩
noncomputable def dg:Def:=⟨["floor","walker","spot"],3,(.cons (.ret (.comp 1 [1,2,0] (.one 0) (.seq (.call "steps_from" (.cons (.var 0) (.cons (.var 1) (.cons (.var 2) .nil))))) (.tup (.cons (.sub (.var 0) (.cst (.int 0))) (.cons (.call "step_cost" (.cons (.var 3) (.cons (.var 1) (.cons (.sub (.var 0) (.cst (.int 0))) (.cons (.var 2) .nil))))) .nil)))))
 .nil),none⟩
noncomputable def bz:Def:=⟨["starts","steps","reached","waiting","start","spot","other","cost","together"],2,(.cons (.dnew 2)
 (.cons (.dnew 3)
 (.cons (.for_ (.one 4) (.seq (.var 0))
  (.cons (.put 3 (.var 4) (.tup (.cons (.cst (.int 0)) (.cons (.cst .non) .nil))))
  .nil))
 (.cons (.whl (.cmp .gt (.blt .len (.cons (.tmp 3) .nil)) (.cst (.int 0)))
  (.cons (.minK 5 3)
  (.cons (.putPop 2 3 5)
  (.cons (.for_ (.two 6 7) (.seq (.callv 1 (.cons (.var 5) .nil)))
   (.cons (.set 8 (.bin .add (.sub (.sub (.tmp 2) (.var 5)) (.cst (.int 0))) (.var 7)))
   (.cons (.ite (.and (.cmp .nin (.var 6) (.tmp 2)) (.or (.cmp .nin (.var 6) (.tmp 3)) (.cmp .lt (.var 8) (.sub (.sub (.tmp 3) (.var 6)) (.cst (.int 0))))))
    (.cons (.put 3 (.var 6) (.tup (.cons (.var 8) (.cons (.var 5) .nil))))
    .nil)
    .nil)
   .nil)))
  .nil))))
 (.cons (.frz 2)
 (.cons (.ret (.var 2))
 .nil)))))),some ("steps_to",[1,2,1,0])⟩
noncomputable def cR:Def:=⟨["floor","walker","goals","goal"],3,(.cons (.for_ (.one 3) (.seq (.var 2))
 (.cons (.expr (.call "need_open" (.cons (.var 0) (.cons (.var 3) .nil))))
 .nil))
 (.cons (.ret (.callL "spread@steps_to" (.cons (.var 2) .nil) "steps_to" [1,2,1,0] [1,0]))
 .nil)),none⟩
noncomputable def ez:Def:=⟨["reached","place","trace"],2,(.cons (.own 2 (.lst (.cons (.var 1) .nil)))
 (.cons (.whl (.cmp .isn (.sub (.sub (.var 0) (.sub (.tmp 2) (.neg (.cst (.int 1))))) (.cst (.int 1))) (.cst .non))
  (.cons (.app 2 (.sub (.sub (.var 0) (.sub (.tmp 2) (.neg (.cst (.int 1))))) (.cst (.int 1))))
  .nil))
 (.cons (.frz 2)
 (.cons (.ret (.var 2))
 .nil)))),none⟩
noncomputable def cE:Def:=⟨["floor","walker","start","goal","reached"],4,(.cons (.expr (.call "need_open" (.cons (.var 0) (.cons (.var 2) .nil))))
 (.cons (.set 4 (.call "spread_to" (.cons (.var 0) (.cons (.var 1) (.cons (.lst (.cons (.var 3) .nil)) .nil)))))
 (.cons (.ite (.cmp .nin (.var 2) (.var 4))
  (.cons (.ret (.cst .non))
  .nil)
  .nil)
 (.cons (.ret (.tup (.cons (.sub (.sub (.var 4) (.var 2)) (.cst (.int 0))) (.cons (.call "traced" (.cons (.var 4) (.cons (.var 2) .nil))) .nil))))
 .nil)))),none⟩
noncomputable def bX:Def:=⟨["reached"],1,(.cons (.ret (.comp 1 [0] (.one 0) (.seq (.blt .sorted (.cons (.var 0) .nil))) (.tup (.cons (.var 0) (.cons (.sub (.sub (.var 1) (.var 0)) (.cst (.int 0))) .nil)))))
 .nil),none⟩
noncomputable def bh:Def:=⟨["starts","steps","reached","waiting","start","spot","other","cost","together"],2,(.cons (.dnew 2)
 (.cons (.dnew 3)
 (.cons (.for_ (.one 4) (.seq (.var 0))
  (.cons (.put 3 (.var 4) (.tup (.cons (.cst (.int 0)) (.cons (.cst .non) .nil))))
  .nil))
 (.cons (.whl (.cmp .gt (.blt .len (.cons (.tmp 3) .nil)) (.cst (.int 0)))
  (.cons (.minK 5 3)
  (.cons (.putPop 2 3 5)
  (.cons (.for_ (.two 6 7) (.seq (.callv 1 (.cons (.var 5) .nil)))
   (.cons (.set 8 (.bin .add (.sub (.sub (.tmp 2) (.var 5)) (.cst (.int 0))) (.var 7)))
   (.cons (.ite (.and (.cmp .nin (.var 6) (.tmp 2)) (.or (.cmp .nin (.var 6) (.tmp 3)) (.cmp .lt (.var 8) (.sub (.sub (.tmp 3) (.var 6)) (.cst (.int 0))))))
    (.cons (.put 3 (.var 6) (.tup (.cons (.var 8) (.cons (.var 5) .nil))))
    .nil)
    .nil)
   .nil)))
  .nil))))
 (.cons (.frz 2)
 (.cons (.ret (.var 2))
 .nil)))))),some ("steps_from",[1,2,1,0])⟩
noncomputable def cj:Def:=⟨["floor","walker","start"],3,(.cons (.expr (.call "need_open" (.cons (.var 0) (.cons (.var 2) .nil))))
 (.cons (.ret (.callL "spread@steps_from" (.cons (.lst (.cons (.var 2) .nil)) .nil) "steps_from" [1,2,1,0] [1,0]))
 .nil)),none⟩
def bH:Def:=⟨["floor","walker","start"],3,(.cons (.ret (.call "rising_costs" (.cons (.call "spread_from" (.cons (.var 0) (.cons (.var 1) (.cons (.var 2) .nil)))) .nil)))
 .nil),none⟩
noncomputable def aN:Def:=⟨["_law_floor_here","_law_way"],2,(.cons (.ite (.cmp .eq (.var 1) (.cst (.int 0)))
 (.cons (.ret (.blt .tuple (.cons (.comp 1 [] (.one 0) (.seq (.var 0)) (.rev (.var 0))) .nil)))
 .nil)
 .nil)
 (.cons (.ite (.cmp .eq (.var 1) (.cst (.int 1)))
  (.cons (.ret (.rev (.var 0)))
  .nil)
  .nil)
 (.cons (.ret (.blt .tuple (.cons (.comp 1 [0] (.one 0) (.rng (.blt .len (.cons (.sub (.var 0) (.cst (.int 0))) .nil))) (.mth .join (.cst (.str "")) (.cons (.comp 1 [0] (.one 0) (.seq (.var 1)) (.sub (.var 0) (.var 1))) .nil))) .nil)))
 .nil))),none⟩
noncomputable def aR:Def:=⟨["_law_floor_here","_law_way","_law_spot"],3,(.cons (.ite (.cmp .eq (.var 1) (.cst (.int 0)))
 (.cons (.ret (.tup (.cons (.sub (.var 2) (.cst (.int 0))) (.cons (.bin .sub (.bin .sub (.blt .len (.cons (.sub (.var 0) (.cst (.int 0))) .nil)) (.cst (.int 1))) (.sub (.var 2) (.cst (.int 1)))) .nil))))
 .nil)
 .nil)
 (.cons (.ite (.cmp .eq (.var 1) (.cst (.int 1)))
  (.cons (.ret (.tup (.cons (.bin .sub (.bin .sub (.blt .len (.cons (.var 0) .nil)) (.cst (.int 1))) (.sub (.var 2) (.cst (.int 0)))) (.cons (.sub (.var 2) (.cst (.int 1))) .nil))))
  .nil)
  .nil)
 (.cons (.ret (.tup (.cons (.sub (.var 2) (.cst (.int 1))) (.cons (.sub (.var 2) (.cst (.int 0))) .nil))))
 .nil))),none⟩
noncomputable def bQ:Def:=⟨["_law_floor_here","_law_walker_here","_law_spot","_law_goal","_law_rise","_law_cost_here"],4,(.cons (.set 4 (.bin .sub (.blt .int (.cons (.sub (.sub (.var 0) (.sub (.var 3) (.cst (.int 0)))) (.sub (.var 3) (.cst (.int 1)))) .nil)) (.blt .int (.cons (.sub (.sub (.var 0) (.sub (.var 2) (.cst (.int 0)))) (.sub (.var 2) (.cst (.int 1)))) .nil))))
 (.cons (.set 5 (.cst (.int 2)))
 (.cons (.ite (.or (.cmp .gt (.var 4) (.sub (.var 1) (.cst (.int 1)))) (.cmp .gt (.bin .sub (.cst (.int 0)) (.var 4)) (.sub (.var 1) (.cst (.int 1)))))
  (.cons (.ret (.cst .non))
  .nil)
  .nil)
 (.cons (.ite (.and (.cmp .ne (.sub (.var 2) (.cst (.int 0))) (.sub (.var 3) (.cst (.int 0)))) (.cmp .ne (.sub (.var 2) (.cst (.int 1))) (.sub (.var 3) (.cst (.int 1)))))
  (.cons (.ite (.or (.not (.sub (.var 1) (.cst (.int 0)))) (.or (.cmp .eq (.sub (.sub (.var 0) (.sub (.var 2) (.cst (.int 0)))) (.sub (.var 3) (.cst (.int 1)))) (.cst (.str "#"))) (.cmp .eq (.sub (.sub (.var 0) (.sub (.var 3) (.cst (.int 0)))) (.sub (.var 2) (.cst (.int 1)))) (.cst (.str "#")))))
   (.cons (.ret (.cst .non))
   .nil)
   .nil)
  (.cons (.set 5 (.cst (.int 3)))
  .nil))
  .nil)
 (.cons (.ret (.bin .add (.var 5) (.ite (.cmp .gt (.var 4) (.cst (.int 0))) (.bin .mul (.sub (.var 1) (.cst (.int 2))) (.var 4)) (.cst (.int 0)))))
 .nil))))),none⟩
noncomputable def bO:Def:=⟨["_law_floor_here","_law_walker_here","_law_spot","_law_made","_law_k","_law_row","_law_column","_law_cost_here"],3,(.cons (.own 3 (.lst .nil))
 (.cons (.for_ (.one 4) (.rng (.cst (.int 9)))
  (.cons (.set 5 (.bin .add (.bin .sub (.sub (.var 2) (.cst (.int 0))) (.cst (.int 1))) (.bin .fdiv (.var 4) (.cst (.int 3)))))
  (.cons (.set 6 (.bin .add (.bin .sub (.sub (.var 2) (.cst (.int 1))) (.cst (.int 1))) (.bin .mod (.var 4) (.cst (.int 3)))))
  (.cons (.ite (.and (.ch .le .lt (.cst (.int 0)) (.var 5) (.blt .len (.cons (.var 0) .nil))) (.and (.ch .le .lt (.cst (.int 0)) (.var 6) (.blt .len (.cons (.sub (.var 0) (.cst (.int 0))) .nil))) (.and (.cmp .ne (.var 4) (.cst (.int 4))) (.cmp .ne (.sub (.sub (.var 0) (.var 5)) (.var 6)) (.cst (.str "#"))))))
   (.cons (.set 7 (.call "_law_cost" (.cons (.var 0) (.cons (.var 1) (.cons (.var 2) (.cons (.tup (.cons (.var 5) (.cons (.var 6) .nil))) .nil))))))
   (.cons (.ite (.cmp .isn (.var 7) (.cst .non))
    (.cons (.app 3 (.tup (.cons (.tup (.cons (.var 5) (.cons (.var 6) .nil))) (.cons (.var 7) .nil))))
    .nil)
    .nil)
   .nil))
   .nil)
  .nil))))
 (.cons (.frz 3)
 (.cons (.ret (.var 3))
 .nil)))),none⟩
noncomputable def cA:Def:=⟨["_law_floor_here","_law_walker_here","_law_way","_law_spots_here","_law_cost_here","_law_k","_law_goal","_law_found"],3,(.cons (.set 3 (.call "_law_spots" (.cons (.var 0) .nil)))
 (.cons (.ite (.or (.not (.ty .list (.var 2))) (.or (.cmp .eq (.var 2) (.lst .nil)) (.cmp .ne (.compIf 1 [3] (.one 0) (.seq (.var 2)) (.cmp .nin (.var 0) (.var 1)) (.var 0)) (.lst .nil))))
  (.cons (.ret (.cst .non))
  .nil)
  .nil)
 (.cons (.set 4 (.cst (.int 0)))
 (.cons (.for_ (.two 5 6) (.enum (.slice (.var 2) (.some (.cst (.int 1))) .no))
  (.cons (.set 7 (.compIf 1 [6] (.one 0) (.seq (.call "_law_steps" (.cons (.var 0) (.cons (.var 1) (.cons (.sub (.var 2) (.var 5)) .nil))))) (.cmp .eq (.sub (.var 0) (.cst (.int 0))) (.var 1)) (.sub (.var 0) (.cst (.int 1)))))
  (.cons (.ite (.cmp .eq (.var 7) (.lst .nil))
   (.cons (.ret (.cst .non))
   .nil)
   .nil)
  (.cons (.set 4 (.bin .add (.var 4) (.sub (.var 7) (.cst (.int 0)))))
  .nil))))
 (.cons (.ret (.var 4))
 .nil))))),none⟩
noncomputable def bY:Def:=⟨["_law_script","_law_floor_here","_law_walker_here","_law_spots_here","_law_one","_law_other","_law_third","_law_costs","_law_back","_law_way","_law_turned","_law_answer","_law_on","_law_rise","_law_row","_law_k"],1,(.cons (.set 1 (.call "_law_floor" (.cons (.var 0) (.cons (.cst (.int 0)) (.cons (.cst (.int 5)) .nil)))))
 (.cons (.set 2 (.call "_law_walker" (.cons (.var 0) (.cons (.cst (.int 40)) .nil))))
 (.cons (.set 3 (.call "_law_spots" (.cons (.var 1) .nil)))
 (.cons (.ite (.cmp .eq (.var 3) (.lst .nil))
  (.cons (.ret (.cst (.bl true)))
  .nil)
  .nil)
 (.cons (.unl 4 5 6 (.comp 1 [3,0] (.one 0) (.rng (.cst (.int 3))) (.sub (.var 1) (.call "_law_pick" (.cons (.var 2) (.cons (.bin .add (.cst (.int 50)) (.var 0)) (.cons (.blt .len (.cons (.var 1) .nil)) .nil)))))))
 (.cons (.set 7 (.blt .dict (.cons (.call "distances_from" (.cons (.var 1) (.cons (.var 2) (.cons (.var 4) .nil)))) .nil)))
 (.cons (.set 8 (.blt .dict (.cons (.call "distances_from" (.cons (.var 1) (.cons (.var 2) (.cons (.var 5) .nil)))) .nil)))
 (.cons (.set 9 (.call "_law_pick" (.cons (.var 0) (.cons (.cst (.int 53)) (.cons (.cst (.int 3)) .nil)))))
 (.cons (.set 10 (.blt .dict (.cons (.call "distances_from" (.cons (.call "_law_turned_floor" (.cons (.var 1) (.cons (.var 9) .nil))) (.cons (.var 2) (.cons (.call "_law_turned_spot" (.cons (.var 1) (.cons (.var 9) (.cons (.var 4) .nil)))) .nil)))) .nil)))
 (.cons (.ite (.cmp .neD (.var 10) (.blt .dict (.cons (.comp 1 [9,1,7] (.one 0) (.seq (.var 7)) (.tup (.cons (.call "_law_turned_spot" (.cons (.var 2) (.cons (.var 1) (.cons (.var 0) .nil)))) (.cons (.sub (.var 3) (.var 0)) .nil)))) .nil)))
  (.cons (.ret (.cst (.bl false)))
  .nil)
  .nil)
 (.cons (.set 11 (.call "least_way" (.cons (.var 1) (.cons (.var 2) (.cons (.var 4) (.cons (.var 5) .nil))))))
 (.cons (.ite (.cmp .nin (.var 5) (.var 7))
  (.cons (.ret (.and (.cmp .is (.var 11) (.cst .non)) (.cmp .nin (.var 4) (.var 8))))
  .nil)
  .nil)
 (.cons (.ite (.cmp .in_ (.var 6) (.var 7))
  (.cons (.set 12 (.blt .dict (.cons (.call "distances_from" (.cons (.var 1) (.cons (.var 2) (.cons (.var 6) .nil)))) .nil)))
  (.cons (.ite (.cmp .gt (.sub (.var 7) (.var 5)) (.bin .add (.sub (.var 7) (.var 6)) (.sub (.var 12) (.var 5))))
   (.cons (.ret (.cst (.bl false)))
   .nil)
   .nil)
  .nil))
  .nil)
 (.cons (.set 13 (.bin .sub (.blt .int (.cons (.sub (.sub (.var 1) (.sub (.var 5) (.cst (.int 0)))) (.sub (.var 5) (.cst (.int 1)))) .nil)) (.blt .int (.cons (.sub (.sub (.var 1) (.sub (.var 4) (.cst (.int 0)))) (.sub (.var 4) (.cst (.int 1)))) .nil))))
 (.cons (.ite (.cmp .ne (.bin .sub (.sub (.var 7) (.var 5)) (.sub (.var 8) (.var 4))) (.bin .mul (.sub (.var 2) (.cst (.int 2))) (.var 13)))
  (.cons (.ret (.cst (.bl false)))
  .nil)
  .nil)
 (.cons (.set 14 (.sub (.var 11) (.cst (.int 1))))
 (.cons (.for_ (.one 15) (.rng (.blt .len (.cons (.var 14) .nil)))
  (.cons (.ite (.cmp .ne (.sub (.var 7) (.sub (.var 14) (.var 15))) (.call "_law_sum" (.cons (.var 1) (.cons (.var 2) (.cons (.slice (.var 14) .no (.some (.bin .add (.var 15) (.cst (.int 1))))) .nil)))))
   (.cons (.ret (.cst (.bl false)))
   .nil)
   .nil)
  .nil))
 (.cons (.ret (.cmp .eq (.sub (.var 11) (.cst (.int 0))) (.sub (.var 7) (.var 5))))
 .nil)))))))))))))))))),none⟩
noncomputable def d_law:Def:=⟨["_law_script","_law_turn"],1,(.cons (.for_ (.one 1) (.rng (.cst (.int 5)))
 (.cons (.ite (.not (.call "_law_once" (.cons (.comp 1 [1] (.one 0) (.seq (.var 0)) (.bin .add (.var 0) (.bin .mul (.cst (.int 7919)) (.var 1)))) .nil)))
  (.cons (.ret (.cst (.bl false)))
  .nil)
  .nil)
 (.cons (.ite (.cmp .eq (.var 0) (.lst .nil))
  (.cons .brk
  .nil)
  .nil)
 .nil)))
 (.cons (.ret (.cst (.bl true)))
 .nil)),none⟩
def T0:List (Str×Def):=[]
noncomputable def T1:List (Str×Def):=(("_law_cell":Str),cQ)::T0
noncomputable def T2:List (Str×Def):=(("_law_pick":Str),bT)::T1
noncomputable def T3:List (Str×Def):=(("_law_floor":Str),bZ)::T2
noncomputable def T4:List (Str×Def):=(("_law_walker":Str),cg)::T3
noncomputable def T5:List (Str×Def):=(("_law_spots":Str),b9)::T4
noncomputable def T6:List (Str×Def):=(("is_whole":Str),dE)::T5
noncomputable def T7:List (Str×Def):=(("is_spot":Str),dz)::T6
noncomputable def T8:List (Str×Def):=(("is_on_floor":Str),cb)::T7
noncomputable def T9:List (Str×Def):=(("is_open":Str),cG)::T8
noncomputable def Mh:List (Str×Def):=(("need_open":Str),bw)::T9
noncomputable def Ll:List (Str×Def):=(("are_beside":Str),cH)::Mh
noncomputable def Lg:List (Str×Def):=(("height_at":Str),cM)::Ll
noncomputable def Ef:List (Str×Def):=(("has_open_corners":Str),br)::Lg
noncomputable def La:List (Str×Def):=(("step_cost":Str),bx)::Ef
noncomputable def Df:List (Str×Def):=(("open_spots_beside":Str),bj)::La
noncomputable def Jz:List (Str×Def):=(("steps_from":Str),bM)::Df
noncomputable def Ji:List (Str×Def):=(("steps_to":Str),dg)::Jz
noncomputable def Hq:List (Str×Def):=(("spread@steps_to":Str),bz)::Ji
noncomputable def M6:List (Str×Def):=(("spread_to":Str),cR)::Hq
noncomputable def H9:List (Str×Def):=(("traced":Str),ez)::M6
noncomputable def MY:List (Str×Def):=(("least_way":Str),cE)::H9
noncomputable def JJ:List (Str×Def):=(("rising_costs":Str),bX)::MY
noncomputable def HQ:List (Str×Def):=(("spread@steps_from":Str),bh)::JJ
noncomputable def Jn:List (Str×Def):=(("spread_from":Str),cj)::HQ
noncomputable def MN:List (Str×Def):=(("distances_from":Str),bH)::Jn
noncomputable def L7:List (Str×Def):=(("_law_turned_floor":Str),aN)::MN
noncomputable def Na:List (Str×Def):=(("_law_turned_spot":Str),aR)::L7
noncomputable def K9:List (Str×Def):=(("_law_cost":Str),bQ)::Na
noncomputable def HP:List (Str×Def):=(("_law_steps":Str),bO)::K9
noncomputable def tG:List (Str×Def):=(("_law_sum":Str),cA)::HP
noncomputable def Mn:List (Str×Def):=(("_law_once":Str),bY)::tG
theorem Hr:den T1 "_law_cell"=af (den T0) cQ:=(aA 0 (by decide+kernel)).trans aH
theorem GU:den T2 "_law_pick"=af (den T1) bT:=(aA 0 (by decide+kernel)).trans aH
theorem HM:den T3 "_law_pick"=af (den T1) bT:=(aA 1 (by decide+kernel)).trans aH
theorem Jc:den T6 "is_whole"=af (den T5) dE:=(aA 0 (by decide+kernel)).trans aH
theorem HX:den T8 "is_spot"=af (den T6) dz:=(aA 1 (by decide+kernel)).trans aH
theorem HF:den T8 "is_on_floor"=af (den T7) cb:=(aA 0 (by decide+kernel)).trans aH
theorem IQ:den T9 "is_open"=af (den T8) cG:=(aA 0 (by decide+kernel)).trans aH
theorem zT:den Ll "need_open"=af (den T9) bw:=(aA 1 (by decide+kernel)).trans aH
theorem Ec:den Lg "is_open"=af (den T8) cG:=(aA 3 (by decide+kernel)).trans aH
theorem Ag:den Ef "are_beside"=af (den Mh) cH:=(aA 2 (by decide+kernel)).trans aH
theorem zZ:den Ef "has_open_corners"=af (den Lg) br:=(aA 0 (by decide+kernel)).trans aH
theorem Co:den Ef "height_at"=af (den Ll) cM:=(aA 1 (by decide+kernel)).trans aH
theorem Dz:den La "is_open"=af (den T8) cG:=(aA 5 (by decide+kernel)).trans aH
theorem Cg:den Df "need_open"=af (den T9) bw:=(aA 5 (by decide+kernel)).trans aH
theorem BW:den Df "open_spots_beside"=af (den La) bj:=(aA 0 (by decide+kernel)).trans aH
theorem Ax:den Df "step_cost"=af (den Ef) bx:=(aA 1 (by decide+kernel)).trans aH
theorem Bl:den Jz "steps_from"=af (den Df) bM:=(aA 0 (by decide+kernel)).trans aH
theorem Bp:den Jz "step_cost"=af (den Ef) bx:=(aA 2 (by decide+kernel)).trans aH
theorem A0:den Ji "steps_to"=af (den Jz) dg:=(aA 0 (by decide+kernel)).trans aH
theorem zW:den Hq "need_open"=af (den T9) bw:=(aA 8 (by decide+kernel)).trans aH
theorem A5:den Hq "spread@steps_to"=af (den Ji) bz:=(aA 0 (by decide+kernel)).trans aH
theorem Ad:den H9 "need_open"=af (den T9) bw:=(aA 10 (by decide+kernel)).trans aH
theorem B4:den H9 "spread_to"=af (den Hq) cR:=(aA 1 (by decide+kernel)).trans aH
theorem Ae:den H9 "traced"=af (den M6) ez:=(aA 0 (by decide+kernel)).trans aH
theorem BD:den JJ "steps_from"=af (den Df) bM:=(aA 6 (by decide+kernel)).trans aH
theorem BG:den HQ "need_open"=af (den T9) bw:=(aA 13 (by decide+kernel)).trans aH
theorem Bu:den HQ "spread@steps_from"=af (den JJ) bh:=(aA 0 (by decide+kernel)).trans aH
theorem Aq:den Jn "rising_costs"=af (den MY) bX:=(aA 2 (by decide+kernel)).trans aH
theorem zR:den Jn "spread_from"=af (den HQ) cj:=(aA 0 (by decide+kernel)).trans aH
theorem Bm:den K9 "_law_cost"=af (den Na) bQ:=(aA 0 (by decide+kernel)).trans aH
theorem EJ:den HP "_law_spots"=af (den T4) b9:=(aA 24 (by decide+kernel)).trans aH
theorem BU:den HP "_law_steps"=af (den K9) bO:=(aA 0 (by decide+kernel)).trans aH
theorem F7:den tG "_law_floor"=af (den T2) bZ:=(aA 27 (by decide+kernel)).trans aH
theorem D2:den tG "_law_walker"=af (den T3) cg:=(aA 26 (by decide+kernel)).trans aH
theorem Dr:den tG "_law_spots"=af (den T4) b9:=(aA 25 (by decide+kernel)).trans aH
theorem E9:den tG "_law_pick"=af (den T1) bT:=(aA 28 (by decide+kernel)).trans aH
theorem Bo:den tG "distances_from"=af (den Jn) bH:=(aA 5 (by decide+kernel)).trans aH
theorem Ak:den tG "_law_turned_floor"=af (den MN) aN:=(aA 4 (by decide+kernel)).trans aH
theorem B2:den tG "_law_turned_spot"=af (den L7) aR:=(aA 3 (by decide+kernel)).trans aH
theorem Bi:den tG "least_way"=af (den H9) cE:=(aA 9 (by decide+kernel)).trans aH
theorem Ah:den tG "_law_sum"=af (den HP) cA:=(aA 0 (by decide+kernel)).trans aH
theorem AG:den Mn "_law_once"=af (den tG) bY:=(aA 0 (by decide+kernel)).trans aH
end K12
namespace K12
open PySem L2 Ci KJ
abbrev sp(r c:Int):PV:=.tup [.int r,.int c]
abbrev eY(ns:List Int):PV:=.lst (ns.map .int)
theorem ny(F:aV)(i:Int):af F dE [.int i]=.ok (.bl true):=by rfl
theorem fK{α:Type}{xs:List α}{k:Nat}(h:k<xs.length):pL xs (k:Int)=some xs[k]:=by
 unfold pL C3;have:((k:Nat):Int)<(xs.length:Int):=by omega
 simp [this,h]
theorem uy{ns:List Int}{k:Int}(h0:0≤k)(h:k<ns.length):∃m,pL (ns.map PV.int) k=some (.int m):=by
 obtain⟨j,rfl⟩:=Int.eq_ofNat_of_zero_le h0
 refine⟨ns[j]'(by omega),?_⟩;rw [fK (k:=j) (by simp;omega)];simp
theorem w8(ns:List Int)(n:Nat):Ci.plain (n+1) (.lst (ns.map .int))=true:=by
 simp only [Ci.plain,List.all_eq_true,List.mem_map]
 rintro x ⟨i,_,rfl⟩
 cases n<;>rfl
theorem eq_nil(ns:List Int):fG (eY ns) (.lst [])=.ok (.bl (decide (ns=[]))):=by
 have e:zK (eY ns)=true:=w8 ns 8
 unfold fG;rw [e];cases ns<;>rfl
theorem B9(F:aV)(ns:List Int)(k:Int)(hk:0≤k):∃m,af F cQ [eY ns,.int k]=.ok (.int m):=by
 simp only [cQ,af,aa,ae,ah,aL,az,au,aS,aQ,aw,ay,ax,reduceIte,J,zzl,eq_nil]
 by_cases h:k<(ns.length:Int)
 ·obtain⟨m,e⟩:=uy hk h
  refine⟨m,?_⟩;simp only [h,decide_true,af,aa,ae,ah,aL,az,au,aS,aQ,aw,ay,ax,reduceIte,J,aM,e]
 ·simp only [h,decide_false,af,aa,ae,ah,aL,az,au,aS,aQ,aw,ay,ax,reduceIte,J,eq_nil];cases ns with
  |nil=>exact⟨0,rfl⟩
  |cons n ns=>
   have hl:(0:Int)<((n::ns).length:Int):=by simp only [List.length_cons];omega
   obtain⟨m,e⟩:=uy (ns:=n::ns) (k:=k%((n::ns).length:Int)) (Int.emod_nonneg _ (by omega)) (Int.emod_lt_of_pos _ hl)
   refine⟨m*31+k,?_⟩;have e3:(aU m||aU 31)=true:=by rw [Bool.or_eq_true];exact .inr (by decide)
   have e4:aM (eY (n::ns)) (.int (k%((n::ns).length:Int)))=.ok (.int m):=by simp only [aM,e];rfl
   have e5:decide ((n::ns)=[])=false:=rfl
   simp only [List.length_cons] at hl e4;simp only [e5,af,aa,ae,ah,aL,az,au,aS,aQ,aw,ay,ax,reduceIte,J,zzl,hl,e4,e3]
theorem Ca(F:aV)(hc:∀ns k,0≤k→∃m,F "_law_cell" [eY ns,.int k]=.ok (.int m))(ns:List Int)(k q:Int)(hk:0≤k)(hq:0<q):∃m,af F bT [eY ns,.int k,.int q]=.ok (.int m)∧0≤m∧m<q:=by
 obtain⟨m,e⟩:=hc ns k hk
 have s1:(aU 6151||aU (k+1))=true:=by rw [Bool.or_eq_true];exact .inl (by decide)
 have s2:(aU (m+6151*(k+1))||aU 40692)=true:=by rw [Bool.or_eq_true];exact .inr (by decide)
 have s3:(0:Int)<2147483399:=by decide
 have s4:(0:Int)<2147483629:=by decide
 have s5:(0:Int)<31∧(31:Int)<1073741824:=by decide
 have a0:=Int.emod_nonneg ((m+6151*(k+1))*40692) (b:=2147483399) (by decide)
 have a1:=Int.emod_lt_of_pos ((m+6151*(k+1))*40692) s3
 refine⟨((((m+6151*(k+1))*40692%2147483399)*((m+6151*(k+1))*40692%2147483399)+((m+6151*(k+1))*40692%2147483399)/31)%2147483629)%q,?_,Int.emod_nonneg _ (by omega),Int.emod_lt_of_pos _ hq⟩;generalize hd:(m+6151*(k+1))*40692%2147483399=d at a0 a1
 have s6:(aU d||aU d)=true:=by
  have:aU d=true:=by simp only [aU,zza,decide_eq_true_eq];omega
  rw [this];rfl
 simp only [bT,af,aa,ae,ah,aL,az,au,aS,aQ,aw,ay,ax,reduceIte,J,eY] at e⊢;simp only [e,af,aa,ae,ah,aL,az,au,aS,aQ,aw,ay,ax,reduceIte,J,s1,s2,s3,s4,s5,hd,s6,hq,and_self]
def qB(rows:List Str):Prop:=rows.length≤6∧∀z∈rows,z.length≤6
abbrev fl(rows:List Str):PV:=.tup (rows.map .str)
def cd(rows:List Str)(r c:Nat):Option Nat:=(rows[r]?).bind fun z=>z.cps.toList[c]?
def wm(rows:List Str)(r c:Nat):Bool:=match cd rows r c with|some x=>x !=35|none=>false
def bt(rows:List Str)(r c:Int):Bool:=decide (0≤r)&&decide (0≤c)&&wm rows r.toNat c.toNat
theorem qI(F:aV)(h:∀i,F "is_whole" [.int i]=.ok (.bl true))(r c:Int):af F dz [sp r c]=.ok (.bl true):=by
 have e0:aM (sp r c) (.int 0)=.ok (.int r):=rfl
 have e1:aM (sp r c) (.int 1)=.ok (.int c):=rfl
 have e2:fG (.int ((2:Nat):Int)) (.int 2)=.ok (.bl true):=rfl
 simp only [dz,af,aa,ae,ah,aL,az,au,aS,aQ,aw,ay,ax,reduceIte,J,si,h,e0,e1,e2]
theorem GV(F:aV)(rows:List Str)(R:qB rows)(r c:Int):af F cb [fl rows,sp r c]=.ok (.bl (decide (0≤r)&&decide (0≤c)&&(cd rows r.toNat c.toNat).isSome)):=by
 have e0:aM (sp r c) (.int 0)=.ok (.int r):=rfl
 have e1:aM (sp r c) (.int 1)=.ok (.int c):=rfl
 simp only [cb,af,aa,ae,ah,aL,az,au,aS,aQ,aw,ay,ax,reduceIte,J,si,e0,e1,pZ,oN,zzl]
 by_cases h0:0≤r
 ·by_cases h1:r<(rows.length:Int)
  ·obtain⟨j,rfl⟩:=Int.eq_ofNat_of_zero_le h0
   have hj:j<rows.length:=by omega
   have e2:aM (fl rows) (.int (j:Int))=.ok (.str rows[j]):=by
    simp only [aM,fl];rw [fK (k:=j) (by simpa using hj)];simp [Res.of]
   have e3:(rows[j]).length≤dF:=Nat.le_trans (R.2 _ (List.getElem_mem hj)) (by decide)
   have e4:(rows[j]).cps.size=(rows[j]).length:=rfl
   simp only [h0,h1,decide_true,af,aa,ae,ah,aL,az,au,aS,aQ,aw,ay,ax,reduceIte,J,e2,e3]
   by_cases h2:0≤c
   ·obtain⟨i,rfl⟩:=Int.eq_ofNat_of_zero_le h2
    simp only [h2,decide_true,af,aa,ae,ah,aL,az,au,aS,aQ,aw,ay,ax,reduceIte,J,cd,Int.toNat_natCast,zzg hj,Option.bind_some,Bool.and_self,Bool.true_and,Res.ok.injEq,PV.bl.injEq];rw [Bool.eq_iff_iff];simp [e4]
   ·simp [af,aa,ae,ah,aL,az,au,aS,aQ,aw,ay,ax,reduceIte,J,h2]
  ·have:cd rows r.toNat c.toNat=none:=by
    unfold cd;rw [List.getElem?_eq_none (by omega)];rfl
   simp [af,aa,ae,ah,aL,az,au,aS,aQ,aw,ay,ax,reduceIte,J,h0,h1,this]
 ·simp [af,aa,ae,ah,aL,az,au,aS,aQ,aw,ay,ax,reduceIte,J,h0]
theorem xm{rows:List Str}{j:Nat}{z:Str}(h:rows[j]?=some z):aM (fl rows) (.int (j:Int))=.ok (.str z):=by
 obtain⟨hj,rfl⟩:=List.getElem?_eq_some_iff.1 h
 simp only [aM,fl];rw [fK (k:=j) (by simpa using hj)];simp [Res.of]
theorem sW{z:Str}{i x:Nat}(hz:z.length≤dF)(h:z.cps.toList[i]?=some x):aM (.str z) (.int (i:Int))=.ok (.str ⟨#[x]⟩):=by
 obtain⟨hj,rfl⟩:=List.getElem?_eq_some_iff.1 h
 simp only [aM,hz,if_true];rw [fK (k:=i) hj]
 rfl
theorem zu{rows:List Str}(R:qB rows){j i x:Nat}(h:cd rows j i=some x):∃z,rows[j]?=some z∧aM (fl rows) (.int (j:Int))=.ok (.str z)∧aM (.str z) (.int (i:Int))=.ok (.str ⟨#[x]⟩):=by
 unfold cd at h;cases hz:rows[j]? with
 |none=>rw [hz] at h;cases h
 |some z=>
  rw [hz] at h;exact⟨z,rfl,xm hz,sW (Nat.le_trans (R.2 _ (List.mem_of_getElem? hz)) (by decide)) h⟩
theorem rQ(x:Nat):iX (.str ⟨#[x]⟩) (.str "#")=.ok (.bl (x !=35)):=by
 have:(("#":Str))=⟨#[35]⟩:=by decide+kernel
 rw [this];show Res.ok (PV.bl (!((⟨#[x]⟩:Str)==⟨#[35]⟩)))=_
 congr 2
 rw [bne,Bool.eq_iff_iff];simp
theorem BC(F:aV)(hs:∀r c,F "is_spot" [sp r c]=.ok (.bl true))(ho:∀rows,qB rows→∀r c,F "is_on_floor" [fl rows,sp r c]=.ok (.bl (decide (0≤r)&&decide (0≤c)&&(cd rows r.toNat c.toNat).isSome)))
 (rows:List Str) (R:qB rows) (r c:Int):af F cG [fl rows,sp r c]=.ok (.bl (bt rows r c)):=by
 have e0:aM (sp r c) (.int 0)=.ok (.int r):=rfl
 have e1:aM (sp r c) (.int 1)=.ok (.int c):=rfl
 simp only [cG,af,aa,ae,ah,aL,az,au,aS,aQ,aw,ay,ax,reduceIte,J,hs,ho rows R,e0,e1];unfold bt wm
 by_cases h0:0≤r
 ·by_cases h1:0≤c
  ·obtain⟨j,rfl⟩:=Int.eq_ofNat_of_zero_le h0
   obtain⟨i,rfl⟩:=Int.eq_ofNat_of_zero_le h1
   simp only [h0,h1,decide_true,Bool.true_and,Bool.and_self,Int.toNat_natCast];cases hc:cd rows j i with
   |none=>simp [af,aa,ae,ah,aL,az,au,aS,aQ,aw,ay,ax,reduceIte,J]
   |some x=>
    obtain⟨z,_,e2,e3⟩:=zu R hc
    simp only [Option.isSome_some,af,aa,ae,ah,aL,az,au,aS,aQ,aw,ay,ax,reduceIte,J,e2,e3,rQ]
  ·simp [af,aa,ae,ah,aL,az,au,aS,aQ,aw,ay,ax,reduceIte,J,h1]
 ·simp [af,aa,ae,ah,aL,az,au,aS,aQ,aw,ay,ax,reduceIte,J,h0]
theorem mW(F:aV)(ho:∀rows,qB rows→∀r c,F "is_open" [fl rows,sp r c]=.ok (.bl (bt rows r c)))(rows:List Str)(R:qB rows)(r c:Int)(h:bt rows r c=true):af F bw [fl rows,sp r c]=.ok .non:=by
 simp only [bw,af,aa,ae,ah,aL,az,au,aS,aQ,aw,ay,ax,reduceIte,J,ho rows R,h]
abbrev C0(p:Int×Int):PV:=sp p.1 p.2
theorem cO{α:Type}{f:PV→Res (Option PV)}{p:α→PV}{g:α→PV}:∀{xs:List α},(∀x∈xs,f (p x)=.ok (some (g x)))→bp f (xs.map p)=.ok (xs.map g)
 |[],_=>rfl
 |x::xs,h=>by
  simp only [List.map_cons,bp,h x (List.mem_cons_self ..),Res.well,Res.bind,cO (xs:=xs) fun y hy=>h y (List.mem_cons_of_mem _ hy),oc]
theorem jd{rows:List Str}{r c:Int}:bt rows r c=true↔0≤r∧0≤c∧wm rows r.toNat c.toNat=true:=by
 simp only [bt,zza,decide_eq_true_eq,and_assoc]
theorem ef{body:PV→Sl→Res Fl}{P:Nat→Sl→Prop}:∀(xs:List PV) (k:Nat) (env:Sl),P k env→(∀i x env,xs[i]?=some x→P (k+i) env→∃aE,body x env=.ok (.nx aE)∧P (k+i+1) aE)→∃aE,forL body xs env=.ok (.nx aE)∧P (k+xs.length) aE
 |[],k,env,h,_=>⟨env,rfl,h⟩
 |x::xs,k,env,h,g=>by
  obtain⟨e1,b1,p1⟩:=g 0 x env rfl h
  obtain⟨e2,b2,p2⟩:=ef xs (k+1) e1 p1 fun i y env hy hp=>by
   obtain⟨e3,b3,p3⟩:=g (i+1) y env hy (by rw [show k+(i+1)=k+1+i by omega];exact hp)
   exact⟨e3,b3,by rw [show k+1+i+1=k+(i+1)+1 by omega];exact p3⟩
  refine⟨e2,?_,by rw [List.length_cons,show k+(xs.length+1)=k+1+xs.length by omega];exact p2⟩;simp only [forL,b1,uA,b2]
theorem qW{n i:Nat}{x:PV}(h:(dw 0 n)[i]?=some x):i<n∧x=.int (i:Int):=by
 simp only [dw,List.getElem?_map,Option.map_eq_some_iff] at h;obtain⟨j,hj,rfl⟩:=h
 obtain⟨h1,h2⟩:=List.getElem?_eq_some_iff.1 hj
 simp only [List.getElem_range] at h2;subst h2;simp only [List.length_range] at h1;exact⟨h1,by simp⟩
def jV(F:aV):Prop:=∀(ns:List Int) (k q:Int),0≤k→0<q→∃m,F "_law_pick" [eY ns,.int k,.int q]=.ok (.int m)∧0≤m∧m<q
theorem og{a b c d m:Int}(h0:0≤m)(h1:m<4):∃v,aM (.lst [.int a,.int b,.int c,.int d]) (.int m)=.ok (.int v)∧(v=a∨v=b∨v=c∨v=d):=by
 have:m=0∨m=1∨m=2∨m=3:=by omega
 rcases this with rfl|rfl|rfl|rfl
 ·exact⟨a,rfl,.inl rfl⟩
 ·exact⟨b,rfl,.inr (.inl rfl)⟩
 ·exact⟨c,rfl,.inr (.inr (.inl rfl))⟩
 ·exact⟨d,rfl,.inr (.inr (.inr rfl))⟩
noncomputable def Dh:Ss:=(.cons (.set 11 (.call "_law_pick" (.cons (.var 0) (.cons (.bin .add (.bin .add (.bin .add (.var 1) (.cst (.int 4))) (.bin .mul (.var 2) (.var 8))) (.var 10)) (.cons (.bin .mul (.cst (.int 12)) (.var 6)) .nil)))))
 (.cons (.set 9 (.bin .add (.var 9) (.ite (.cmp .lt (.bin .mod (.var 11) (.cst (.int 12))) (.var 5)) (.cst (.str "#")) (.blt .str (.cons (.bin .fdiv (.var 11) (.cst (.int 12))) .nil)))))
 .nil))
noncomputable def El:Ss:=(.cons (.set 9 (.cst (.str "")))
 (.cons (.for_ (.one 10) (.rng (.var 4)) Dh)
 (.cons (.app 7 (.var 9))
 .nil)))
structure Fl(rows:List Str)(w:Nat):Prop where
 rok:qB rows
 ne:0<rows.length
 w1:1≤w
 rect:∀z∈rows,z.length=w
 dig:∀z∈rows,∀x∈z.cps.toList,x=35∨(48≤x∧x≤57)
theorem aI{i:Int}:cV .abs [.int i]=.ok (.int (if i<0 then -i else i)):=id rfl
theorem mX{i j:Int}:cV .max2 [.int i,.int j]=.ok (.int (if j>i then j else i)):=id rfl
theorem ON:c7 .gt=qV:=id rfl
theorem OX{i j:Int}:qV (.int i) (.int j)=.ok (.bl (decide (j<i))):=id rfl
theorem N0:c7 .is=rO:=id rfl
theorem LG:c7 .isn=e8:=id rfl
theorem Bv{v:Int}(h0:0≤v)(h1:v<10):cV .str [.int v]=.ok (.str ⟨#[48+v.toNat]⟩):=by
 have:v=0∨v=1∨v=2∨v=3∨v=4∨v=5∨v=6∨v=7∨v=8∨v=9:=by omega
 rcases this with rfl|rfl|rfl|rfl|rfl|rfl|rfl|rfl|rfl|rfl<;>(show Res.ok (PV.str _)=_;congr 2)
theorem AF{x:Nat}(h0:48≤x)(h1:x≤57):cV .int [.str ⟨#[x]⟩]=.ok (.int ((x:Int)-48)):=by
 have:x=48∨x=49∨x=50∨x=51∨x=52∨x=53∨x=54∨x=55∨x=56∨x=57:=by omega
 have k:∀(y:Nat) (v:Int),PySem.intText? (⟨#[y]⟩:Str)=some v→cV .int [.str ⟨#[y]⟩]=.ok (.int v):=fun y v e=>by
  show(if(⟨#[y]⟩:Str).length≤640 then(Res.of (PySem.intText? (⟨#[y]⟩:Str))).bind fun n=>Res.ok (PV.int n) else .bad)=_
  rw [if_pos (show(⟨#[y]⟩:Str).length≤640 from(by show 1≤640;decide)),e]
  rfl
 rcases this with rfl|rfl|rfl|rfl|rfl|rfl|rfl|rfl|rfl|rfl<;>exact k _ _ (by decide+kernel)
theorem D0(F:aV)(hp:jV F)(ns:List Int)(q a b sh tp:Int)(NX:0≤q)(MR:q≤6)(h1:1≤tp)(h2:tp≤10)(own:PV)(i n:Nat)(hn:n≤6)(FY zf:Ci.Slot):
 ∃(z:Str) (Cq C7:Ci.Slot),z.length=n∧(∀x∈z.cps.toList,x=35∨(48≤x∧x≤57))∧forL (fun x env=>((Tg.one 10).put x env).bind fun aE=>ah F Dh aE) (dw 0 n) [.val (eY ns),.val (.int 0),.val (.int q),.val (.int a),.val (.int b),.val (.int sh),.val (.int tp),.own own,.val (.int i),.val (.str ""),FY,zf]=
  .ok (.nx [.val (eY ns),.val (.int 0),.val (.int q),.val (.int a),.val (.int b),.val (.int sh),.val (.int tp),.own own,.val (.int i),.val (.str z),Cq,C7]):=by
 obtain⟨aE,e,z,Cq,C7,hz,hd,rfl⟩:=ef (body:=fun x env=>((Tg.one 10).put x env).bind fun aE=>ah F Dh aE) (P:=fun j env=>∃(z:Str) (Cq C7:Ci.Slot),z.length=j∧(∀x∈z.cps.toList,x=35∨(48≤x∧x≤57))∧env=[.val (eY ns),.val (.int 0),.val (.int q),.val (.int a),.val (.int b),.val (.int sh),.val (.int tp),.own own,.val (.int i),.val (.str z),Cq,C7]) (dw 0 n) 0 [.val (eY ns),.val (.int 0),.val (.int q),.val (.int a),.val (.int b),.val (.int sh),.val (.int tp),.own own,.val (.int i),.val (.str ""),FY,zf] ⟨_,_,_,by decide+kernel,by decide+kernel,rfl⟩ (by
  intro j x env hx hq;obtain⟨hj,rfl⟩:=qW hx
  obtain⟨z,Cq,C7,hz,hd,rfl⟩:=hq
  obtain⟨m,em,m0,m1⟩:=hp ns (0+4+q*(i:Int)+(j:Int)) (12*tp) (by
   have:=Int.mul_nonneg NX (Int.natCast_nonneg i)
   omega) (by omega)
  have q1:(aU q||aU (i:Int))=true:=by
   have:aU q=true:=by simp only [aU,zza,decide_eq_true_eq];omega
   rw [this];rfl
  have q2:(aU 12||aU tp)=true:=by rw [Bool.or_eq_true];exact .inl (by decide)
  have q3:(0:Int)<12:=by decide
  have q4:(0:Int)<12∧(12:Int)<1073741824:=by decide
  have ew:=Bv (v:=m/12) (by omega) (by omega)
  have Ki:(("#":Str))=⟨#[35]⟩:=by decide+kernel
  by_cases hm:m%12<sh
  ·refine⟨[.val (eY ns),.val (.int 0),.val (.int q),.val (.int a),.val (.int b),.val (.int sh),.val (.int tp),.own own,.val (.int i),.val (.str (z++"#")),.val (.int j),.val (.int m)],?_,_,_,_,?_,?_,rfl⟩
   ·have l:z.length+(("#":Str)).length≤dF:=Nat.le_trans (show _≤8 by rw [Ki];show z.length+1≤8;omega) (by decide)
    simp only [Dh,af,aa,ae,ah,aL,az,au,aS,aQ,aw,ay,ax,reduceIte,J,q1,q2,q3,q4,em,hm,decide_true,l,and_self]
   ·rw [Str.length_append,Ki];show z.length+1=_;omega
   ·rw [Ki];show∀x∈(z.cps++#[35]).toList,_;intro x hx;simp only [Array.toList_append,List.mem_append,List.mem_singleton] at hx;rcases hx with hx|hx
    ·exact hd x hx
    ·exact .inl hx
  ·refine⟨[.val (eY ns),.val (.int 0),.val (.int q),.val (.int a),.val (.int b),.val (.int sh),.val (.int tp),.own own,.val (.int i),.val (.str (z++⟨#[48+(m/12).toNat]⟩)),.val (.int j),.val (.int m)],?_,_,_,_,?_,?_,rfl⟩
   ·have l:z.length+(⟨#[48+(m/12).toNat]⟩:Str).length≤dF:=Nat.le_trans (show z.length+1≤8 by omega) (by decide)
    simp only [Dh,af,aa,ae,ah,aL,az,au,aS,aQ,aw,ay,ax,reduceIte,J,q1,q2,q3,q4,em,hm,decide_false,l,and_self,ew]
   ·rw [Str.length_append];show z.length+1=_;omega
   ·show∀x∈(z.cps++#[48+(m/12).toNat]).toList,_
    intro x hx;simp only [Array.toList_append,List.mem_append,List.mem_singleton] at hx;rcases hx with hx|hx
    ·exact hd x hx
    ·exact .inr (by omega))
 refine⟨z,Cq,C7,?_,hd,e⟩
 simpa [dw] using hz
theorem uK(F:aV)(hp:jV F)(ns:List Int)(q:Int)(zE:1≤q)(MR:q≤6):∃rows w,Fl rows w∧af F bZ [eY ns,.int 0,.int q]=.ok (fl rows):=by
 obtain⟨a,ea,a0,a6⟩:=hp ns 0 q (by decide) (by omega)
 obtain⟨b,eb,b0,b6⟩:=hp ns (0+1) q (by decide) (by omega)
 obtain⟨c,ec,c0,c4⟩:=hp ns (0+2) 4 (by decide) (by decide)
 obtain⟨d,ed,d0,d4⟩:=hp ns (0+3) 4 (by decide) (by decide)
 obtain⟨sh,es,hs⟩:=og (a:=0) (b:=2) (c:=4) (d:=6) c0 c4
 obtain⟨tp,et,ht⟩:=og (a:=1) (b:=2) (c:=3) (d:=10) d0 d4
 have t1:1≤tp:=by omega
 have t2:tp≤10:=by omega
 have sa:aP (1+a)=true:=by simp only [aP,zza,decide_eq_true_eq];omega
 have sb:aP (1+b)=true:=by simp only [aP,zza,decide_eq_true_eq];omega
 obtain⟨aE,e,rows,s8,s9,FY,zf,hl,hr,hd,rfl⟩:=ef (body:=fun x env=>((Tg.one 8).put x env).bind fun aE=>ah F El aE)
  (P:=fun i env=>∃(rows:List Str) (s8 s9 FY zf:Ci.Slot),rows.length=i∧(∀z∈rows,z.length=(1+b).toNat)∧(∀z∈rows,∀x∈z.cps.toList,x=35∨(48≤x∧x≤57))∧env=[.val (eY ns),.val (.int 0),.val (.int q),.val (.int (1+a)),.val (.int (1+b)),.val (.int sh),.val (.int tp),.own (.lst (rows.map .str)),s8,s9,FY,zf])
  (dw 0 (1+a).toNat) 0 [.val (eY ns),.val (.int 0),.val (.int q),.val (.int (1+a)),.val (.int (1+b)),.val (.int sh),.val (.int tp),.own (.lst []),.no,.no,.no,.no] ⟨[],_,_,_,_,rfl,(fun z hz=>by cases hz),(fun z hz=>by cases hz),rfl⟩ (by
  intro i x env hx hq;obtain⟨hi,rfl⟩:=qW hx
  obtain⟨rows,s8,s9,FY,zf,hl,hr,hd,rfl⟩:=hq
  obtain⟨z,Cq,C7,hz,hzd,e⟩:=D0 F hp ns q (1+a) (1+b) sh tp (by omega) MR t1 t2 (.lst (rows.map .str)) i (1+b).toNat (by omega) FY zf
  have l:(rows.map PV.str).length<dF:=Nat.lt_of_le_of_lt (m:=6) (by simp only [zzl];omega) (by decide)
  refine⟨[.val (eY ns),.val (.int 0),.val (.int q),.val (.int (1+a)),.val (.int (1+b)),.val (.int sh),.val (.int tp),.own (.lst ((rows++[z]).map .str)),.val (.int i),.val (.str z),Cq,C7],?_,rows++[z],_,_,_,_,by simp;omega,?_,?_,rfl⟩
  ·have e':=e
   simp only [Dh,af,aa,ae,ah,aL,az,au,aS,aQ,aw,ay,ax,reduceIte,J] at e';simp only [zzl] at l;simp only [El,Dh,af,aa,ae,ah,aL,az,au,aS,aQ,aw,ay,ax,reduceIte,J,sb,e',zzl,l,List.map_append]
  ·intro y hy;simp only [List.mem_append,List.mem_singleton] at hy;rcases hy with hy|rfl
   ·exact hr y hy
   ·exact hz
  ·intro y hy;simp only [List.mem_append,List.mem_singleton] at hy;rcases hy with hy|rfl
   ·exact hd y hy
   ·exact hzd)
 have vm:rows.length=(1+a).toNat:=by simpa [dw] using hl
 refine⟨rows,(1+b).toNat,⟨⟨by omega,fun z hz=>by rw [hr z hz];omega⟩,by omega,by omega,hr,hd⟩,?_⟩
 simp only [El,Dh,af,aa,ae,ah,aL,az,au,aS,aQ,aw,ay,ax,reduceIte,J] at e;simp only [bZ,bZ,af,aa,ae,ah,aL,az,au,aS,aQ,aw,ay,ax,reduceIte,J,ea,eb,ec,ed,es,et,sa,e]
end K12
namespace K12
open PySem L2 Ci KJ
def bG(rows:List Str)(r c:Int):Int:=match cd rows r.toNat c.toNat with
 |some x=>(x:Int)-48
 |none=>0
theorem xE{rows:List Str}{r c:Int}(h:bt rows r c=true):∃(i j x:Nat),r=i∧c=j∧cd rows i j=some x∧x≠35:=by
 obtain⟨h0,h1,h2⟩:=jd.1 h
 obtain⟨i,rfl⟩:=Int.eq_ofNat_of_zero_le h0
 obtain⟨j,rfl⟩:=Int.eq_ofNat_of_zero_le h1
 simp only [Int.toNat_natCast,wm] at h2;cases hc:cd rows i j with
 |none=>rw [hc] at h2;cases h2
 |some x=>
  rw [hc] at h2;exact⟨i,j,x,rfl,rfl,hc,by simpa using h2⟩
theorem EX{rows:List Str}{w:Nat}(L:Fl rows w){i j x:Nat}(h:cd rows i j=some x):x=35∨(48≤x∧x≤57):=by
 unfold cd at h;cases hz:rows[i]? with
 |none=>rw [hz] at h;cases h
 |some z=>
  rw [hz] at h;exact L.dig z (List.mem_of_getElem? hz) x (List.mem_of_getElem? h)
theorem gJ{rows:List Str}{w:Nat}(L:Fl rows w){r c:Int}(h:bt rows r c=true):∃z x,aM (fl rows) (.int r)=.ok (.str z)∧aM (.str z) (.int c)=.ok (.str ⟨#[x]⟩)∧cV .int [.str ⟨#[x]⟩]=.ok (.int (bG rows r c))∧0≤bG rows r c∧bG rows r c≤9:=by
 obtain⟨i,j,x,rfl,rfl,hc,hx⟩:=xE h
 obtain⟨z,_,e1,e2⟩:=zu L.rok hc
 have hd:=(EX L hc).resolve_left hx
 have hh:bG rows i j=(x:Int)-48:=by simp only [bG,Int.toNat_natCast,hc]
 refine⟨z,x,e1,e2,?_,?_⟩
 ·rw [hh];exact AF hd.1 hd.2
 ·rw [hh];omega
noncomputable def cu(rows:List Str)(sl:Bool)(cl pr:Int)(r c r' c':Int):Option Int:=
 if(r=r'∧c=c')∨1<r-r'∨1<r'-r∨1<c-c'∨1<c'-c then none
 else if(r≠r'∧c≠c')∧¬(sl=true∧bt rows r c'=true∧bt rows r' c=true) then none
 else if cl<bG rows r' c'-bG rows r c∨cl<bG rows r c-bG rows r' c' then none
 else some ((if r≠r'∧c≠c' then 3 else 2)+pr*(if bG rows r' c'-bG rows r c>0 then bG rows r' c'-bG rows r c else 0))
def oP:Option Int→PV
 |none=>.non
 |some i=>.int i
abbrev wk(sl:Bool)(cl pr:Int):PV:=.tup [.bl sl,.int cl,.int pr]
theorem JB{r c:Int}:aM (sp r c) (.int 0)=.ok (.int r):=id rfl
theorem JF{r c:Int}:aM (sp r c) (.int 1)=.ok (.int c):=id rfl
theorem Od{sl:Bool}{cl pr:Int}:aM (wk sl cl pr) (.int 0)=.ok (.bl sl):=id rfl
theorem NP{sl:Bool}{cl pr:Int}:aM (wk sl cl pr) (.int 1)=.ok (.int cl):=id rfl
theorem OB{sl:Bool}{cl pr:Int}:aM (wk sl cl pr) (.int 2)=.ok (.int pr):=id rfl
theorem nI{i j:Int}:iX (.int i) (.int j)=.ok (.bl (!(i==j))):=id rfl
theorem eI{i j:Int}:fG (.int i) (.int j)=.ok (.bl (i==j)):=id rfl
theorem nS{r c r' c':Int}:iX (sp r c) (sp r' c')=.ok (.bl (!((r==r')&&((c==c')&&true)))):=id rfl
theorem eS{r c r' c':Int}:fG (sp r c) (sp r' c')=.ok (.bl ((r==r')&&((c==c')&&true))):=id rfl
noncomputable def J2:=And.intro @JB (And.intro @JF (And.intro @Od (And.intro @NP (And.intro @OB (And.intro @aI (And.intro @mX (And.intro @ON (And.intro @OX (And.intro @nI (And.intro @eI (And.intro @nS (And.intro @eS (And.intro @N0 (And.intro @LG (And.intro @Kh (And.intro @LU (@K8)))))))))))))))))
def far(r c r' c':Int):Prop:=(r=r'∧c=c')∨1<r-r'∨1<r'-r∨1<c-c'∨1<c'-c
instance(r c r' c':Int):Decidable (far r c r' c'):=by unfold far;infer_instance
theorem wc(F:aV)(r c r' c':Int):af F cH [sp r c,sp r' c']=.ok (.bl (!decide (far r c r' c'))):=by
 simp only [cH,af,aa,ae,ah,aL,az,au,aS,aQ,aw,ay,ax,reduceIte,J,JB,JF,aI,nS];have key:∀(a b d:Bool),(Res.ok (PV.bl a)).bind (fun x=>qA x fun t=>if t then(Res.ok (PV.bl b)).bind (fun x=>qA x fun t=>if t then Res.ok (PV.bl d) else Res.ok (PV.bl false)) else Res.ok (PV.bl false))=Res.ok (PV.bl (a&&(b&&d))):=by
  intro a b d;cases a<;>cases b<;>cases d<;>rfl
 by_cases h1:r=r'∧c=c'
 ·obtain⟨rfl,rfl⟩:=h1
  have:far r c r c:=.inl ⟨rfl,rfl⟩
  simp [af,aa,ae,ah,aL,az,au,aS,aQ,aw,ay,ax,reduceIte,J,this]
 ·have b1:(!((r==r')&&((c==c')&&true)))=true:=by
   cases hh:((r==r')&&((c==c')&&true)) with
   |false=>rfl
   |true=>exact absurd (by simpa using hh) h1
  simp only [b1,af,aa,ae,ah,aL,az,au,aS,aQ,aw,ay,ax,reduceIte,J]
  by_cases h2:(if r-r'<0 then -(r-r') else r-r')≤1
  ·by_cases h3:(if c-c'<0 then -(c-c') else c-c')≤1
   ·have:¬far r c r' c':=by
     rintro (h|h|h|h|h)
     ·exact h1 h
     all_goals (split at h2<;>split at h3<;>omega)
    simp only [h2,h3,this,decide_true,decide_false,af,aa,ae,ah,aL,az,au,aS,aQ,aw,ay,ax,reduceIte,J]
   ·have:far r c r' c':=by
     unfold far;split at h3<;>omega
    simp only [h2,h3,this,decide_true,decide_false,af,aa,ae,ah,aL,az,au,aS,aQ,aw,ay,ax,reduceIte,J]
  ·have:far r c r' c':=by
    unfold far;split at h2<;>omega
   simp only [h2,this,decide_true,decide_false,af,aa,ae,ah,aL,az,au,aS,aQ,aw,ay,ax,reduceIte,J]
def rq(F:aV):Prop:=∀rows,qB rows→∀r c,F "is_open" [fl rows,sp r c]=.ok (.bl (bt rows r c))
theorem uP(F:aV)(hn:∀rows,qB rows→∀r c,bt rows r c=true→F "need_open" [fl rows,sp r c]=.ok .non){rows:List Str}{w:Nat}(L:Fl rows w){r c:Int}(h:bt rows r c=true):af F cM [fl rows,sp r c]=.ok (.int (bG rows r c)):=by
 obtain⟨z,x,e1,e2,e3,_⟩:=gJ L h
 simp only [cM,af,aa,ae,ah,aL,az,au,aS,aQ,aw,ay,ax,reduceIte,J,hn rows L.rok r c h,JB,JF,e1,e2,e3]
theorem rM(F:aV)(ho:rq F){rows:List Str}(R:qB rows)(r c r' c':Int):af F br [fl rows,sp r c,sp r' c']=.ok (.bl (bt rows r c'&&bt rows r' c)):=by
 simp only [br,af,aa,ae,ah,aL,az,au,aS,aQ,aw,ay,ax,reduceIte,J,JB,JF,ho rows R];cases bt rows r c'<;>simp only [af,aa,ae,ah,aL,az,au,aS,aQ,aw,ay,ax,reduceIte,J,Bool.false_and,Bool.true_and]
theorem iL{i j:Int}(h0:0≤i)(h1:i<4):(aU i||aU j)=true:=by
 have:aU i=true:=by simp only [aU,zza,decide_eq_true_eq];omega
 rw [this];rfl
structure Wk(cl pr:Int):Prop where
 c0:0≤cl
 p0:0≤pr
 p4:pr<4
 c9:cl≤9
theorem Al(F:aV)(hb:∀r c r' c',F "are_beside" [sp r c,sp r' c']=.ok (.bl (!decide (far r c r' c'))))(hk:∀rows,qB rows→∀r c r' c',F "has_open_corners" [fl rows,sp r c,sp r' c']=.ok (.bl (bt rows r c'&&bt rows r' c)))
 (hh:∀rows w,Fl rows w→∀r c,bt rows r c=true→F "height_at" [fl rows,sp r c]=.ok (.int (bG rows r c))) {rows:List Str} {w:Nat} (L:Fl rows w) {sl:Bool} {cl pr:Int} (V:Wk cl pr) {r c r' c':Int} (h:bt rows r c=true) (h':bt rows r' c'=true):
 af F bx [fl rows,wk sl cl pr,sp r c,sp r' c']=.ok (oP (cu rows sl cl pr r c r' c')):=by
 have e1:=hh rows w L r c h
 have e2:=hh rows w L r' c' h'
 have e3:=hk rows L.rok r c r' c'
 have e4:=hb r c r' c'
 by_cases h1:far r c r' c'
 ·have:cu rows sl cl pr r c r' c'=none:=if_pos h1
  simp only [bx,af,aa,ae,ah,aL,az,au,aS,aQ,aw,ay,ax,reduceIte,J,J2,e4,h1,decide_true,this,oP]
 ·have q1:cu rows sl cl pr r c r' c'=_:=if_neg h1
  rw [q1];have ms:=fun j=>iL (j:=j) V.p0 V.p4
  obtain⟨s,hs⟩:∃s,((!(r==r'))&&!(c==c'))=s:=⟨_,rfl⟩
  have JD:s=true↔r≠r'∧c≠c':=by rw [←hs];simp
  have ia:∀{t u:Bool},(if t=true then Res.ok (PV.bl u) else Res.ok (PV.bl false))=Res.ok (PV.bl (t&&u)):=fun{t u}=>by cases t<;>rfl
  have ii:(if s=true then Res.ok (PV.int 3) else Res.ok (PV.int 2))=Res.ok (PV.int (if r≠r'∧c≠c' then 3 else 2)):=by
   by_cases n3:r≠r'∧c≠c'
   ·rw [if_pos (JD.2 n3),if_pos n3]
   ·rw [if_neg (fun z=>n3 (JD.1 z)),if_neg n3]
  have mx:(if(0:Int)>bG rows r' c'-bG rows r c then 0 else bG rows r' c'-bG rows r c)=(if bG rows r' c'-bG rows r c>0 then bG rows r' c'-bG rows r c else 0):=by
   split<;>split<;>omega
  have cc:(if sl=true then Res.ok (PV.bl (bt rows r c'&&bt rows r' c)) else Res.ok (PV.bl false))=Res.ok (PV.bl (sl&&(bt rows r c'&&bt rows r' c))):=ia
  by_cases hblk:(r≠r'∧c≠c')∧¬(sl=true∧bt rows r c'=true∧bt rows r' c=true)
  ·rw [if_pos hblk];have hB:(!(sl&&(bt rows r c'&&bt rows r' c)))=true:=by
    rw [Bool.not_eq_true',Bool.eq_false_iff];intro z;rw [zza,zza] at z;exact hblk.2 z
   simp only [bx,af,aa,ae,ah,aL,az,au,aS,aQ,aw,ay,ax,reduceIte,J,J2,e4,e3,h1,decide_false,ia,hs,JD.2 hblk.1,hB,Bool.and_self,oP]
  ·rw [if_neg hblk];have hB:(s&&!(sl&&(bt rows r c'&&bt rows r' c)))=false:=by
    rw [Bool.eq_false_iff];intro z;rw [zza,Bool.not_eq_true',Bool.eq_false_iff] at z;exact hblk ⟨JD.1 z.1,fun y=>z.2 (by rw [zza,zza];exact y)⟩
   by_cases hq:cl<(if bG rows r' c'-bG rows r c<0 then -(bG rows r' c'-bG rows r c) else bG rows r' c'-bG rows r c)
   ·have hz:cl<bG rows r' c'-bG rows r c∨cl<bG rows r c-bG rows r' c':=by split at hq<;>omega
    simp only [bx,af,aa,ae,ah,aL,az,au,aS,aQ,aw,ay,ax,reduceIte,J,J2,e4,e3,e1,e2,h1,decide_false,ia,hs,hB,oP,hq,decide_true,if_pos hz]
   ·have hz:¬(cl<bG rows r' c'-bG rows r c∨cl<bG rows r c-bG rows r' c'):=by split at hq<;>omega
    simp only [bx,af,aa,ae,ah,aL,az,au,aS,aQ,aw,ay,ax,reduceIte,J,J2,e4,e3,e1,e2,h1,decide_false,ia,hs,hB,oP,hq,if_neg hz,ii,ms,mx]
theorem Iy{rows:List Str}{w:Nat}(L:Fl rows w){i j:Nat}(hi:i<rows.length)(hj:j<w):∃x,cd rows i j=some x:=by
 have hz:rows[i]?=some rows[i]:=zzg hi
 have hl:=L.rect _ (List.mem_of_getElem? hz)
 refine⟨(rows[i]).cps.toList[j]'(by simp only [Array.length_toList];rw [←hl] at hj;exact hj),?_⟩;unfold cd;rw [hz];exact zzg _
theorem iz{rows:List Str}{w:Nat}(L:Fl rows w){r c:Int}(h:bt rows r c=true):0≤r∧r<rows.length∧0≤c∧c<w:=by
 obtain⟨i,j,x,rfl,rfl,hc,_⟩:=xE h
 unfold cd at hc;cases hz:rows[i]? with
 |none=>rw [hz] at hc;cases hc
 |some z=>
  rw [hz] at hc;have h1:=(List.getElem?_eq_some_iff.1 hz).1
  have h2:=(List.getElem?_eq_some_iff.1 hc).1
  have hl:=L.rect _ (List.mem_of_getElem? hz)
  simp only [Array.length_toList] at h2;have:z.cps.size=z.length:=rfl
  omega
end K12
namespace K12
open PySem L2 Ci KJ
abbrev rN(p:Nat×Nat):PV:=sp p.1 p.2
theorem uu:∀{xs:List PV} {k i:Nat} {x:PV},(cB k xs)[i]?=some x→∃y,xs[i]?=some y∧x=.tup [.int ((k+i:Nat):Int),y]
 |[],_,_,_,h=>by cases h
 |y::ys,k,0,x,h=>by
  simp only [cB,List.getElem?_cons_zero,Option.some.injEq] at h;exact⟨y,rfl,h.symm⟩
 |y::ys,k,i+1,x,h=>by
  simp only [cB,List.getElem?_cons_succ] at h;obtain⟨w,h1,h2⟩:=uu h
  refine⟨w,h1,?_⟩;rw [h2,show k+1+i=k+(i+1) by omega]
theorem cZ:∀(xs:List PV) (k:Nat),(cB k xs).length=xs.length
 |[],_=>rfl
 |x::xs,k=>by simp only [cB,List.length_cons,cZ xs]
theorem pU{f:PV→Res (Option PV)}{r:Nat}(hf:∀c x:Nat,f (.tup [.int c,.str ⟨#[x]⟩])=.ok (if x !=35 then some (sp r c) else none)):∀(xs:List Nat) (k:Nat),∃L:List (Nat×Nat),bp f (cB k (xs.map fun x=>.str ⟨#[x]⟩))=.ok (L.map rN)∧L.Nodup∧L.length≤xs.length∧∀a b,(a,b)∈L↔a=r∧k≤b∧∃x,xs[b-k]?=some x∧x≠35
 |[],k=>⟨[],rfl,List.nodup_nil,Nat.le_refl _,fun a b=>by simp⟩
 |x::xs,k=>by
  obtain⟨L,e,nd,l,h⟩:=pU hf xs (k+1)
  by_cases hx:x=35
  ·refine⟨L,?_,nd,Nat.le_succ_of_le l,fun a b=>?_⟩
   ·have:(x !=35)=false:=by simp [hx]
    simp only [List.map_cons,cB,bp,hf,this,HE,uA,e,oc]
    rfl
   ·rw [h]
    constructor
    ·rintro ⟨h1,h2,y,h3,h4⟩
     refine⟨h1,by omega,y,?_,h4⟩;rw [show b-k=(b-(k+1))+1 by omega];exact h3
    ·rintro ⟨h1,h2,y,h3,h4⟩
     have:b≠k:=by
      rintro rfl
      simp at h3;omega
     refine⟨h1,by omega,y,?_,h4⟩;rw [show b-k=(b-(k+1))+1 by omega] at h3;exact h3
  ·refine⟨(r,k)::L,?_,List.nodup_cons.2 ⟨(fun z=>by have:=(h r k).1 z;omega),nd⟩,Nat.succ_le_succ l,fun a b=>?_⟩
   ·have:(x !=35)=true:=by simp [hx]
    simp only [List.map_cons,cB,bp,hf,this,HE,uA,e,oc,if_true]
   ·rw [List.mem_cons,h]
    constructor
    ·rintro (h1|⟨h1,h2,y,h3,h4⟩)
     ·cases h1;exact⟨rfl,Nat.le_refl _,x,by simp,hx⟩
     ·refine⟨h1,by omega,y,?_,h4⟩;rw [show b-k=(b-(k+1))+1 by omega];exact h3
    ·rintro ⟨h1,h2,y,h3,h4⟩
     by_cases hb:b=k
     ·subst hb;subst h1;exact .inl rfl
     ·refine .inr ⟨h1,by omega,y,?_,h4⟩;rw [show b-k=(b-(k+1))+1 by omega] at h3;exact h3
theorem sO{rows:List Str}{r c:Nat}:wm rows r c=true↔∃z,rows[r]?=some z∧∃x,z.cps.toList[c]?=some x∧x≠35:=by
 unfold wm cd;cases hz:rows[r]? with
 |none=>simp
 |some z=>
  simp only [Option.bind_some];cases hx:z.cps.toList[c]? with
  |none=>
   refine⟨(fun h=>by cases h),?_⟩
   rintro ⟨w,hw,x,uX,_⟩
   cases hw;rw [hx] at uX;cases uX
  |some x=>
   refine⟨fun h=>⟨z,rfl,x,hx,by simpa using h⟩,?_⟩
   rintro ⟨w,hw,y,hy,h⟩
   cases hw;rw [hx] at hy;cases hy
   simpa using h
def xH:Ss:=(.cons (.extd 1 (.compIf 2 [2] (.two 0 1) (.enum (.var 3)) (.cmp .ne (.var 1) (.cst (.str "#"))) (.tup (.cons (.var 2) (.cons (.var 0) .nil)))))
 .nil)
def uz(F:aV):Prop:=∀rows,qB rows→∃L:List (Nat×Nat),F "_law_spots" [fl rows]=.ok (.lst (L.map rN))∧L.Nodup∧L.length≤36∧∀r c,(r,c)∈L↔wm rows r c=true
theorem pP(F:aV)(rows:List Str)(R:qB rows):∃L:List (Nat×Nat),af F b9 [fl rows]=.ok (.lst (L.map rN))∧L.Nodup∧L.length≤36∧∀r c,(r,c)∈L↔wm rows r c=true:=by
 have O9:=R.1
 obtain⟨aE,e,L,s2,s3,nd,hl,hm,rfl⟩:=ef (body:=fun x env=>((Tg.two 2 3).put x env).bind fun aE=>ah F xH aE) (P:=fun i env=>∃(L:List (Nat×Nat)) (s2 s3:Slot),L.Nodup∧L.length≤6*i∧(∀r c,(r,c)∈L↔r<i∧wm rows r c=true)∧env=[.val (fl rows),.own (.lst (L.map rN)),s2,s3])
  (cB 0 (rows.map .str)) 0 [.val (fl rows),.own (.lst []),.no,.no] ⟨[],_,_,List.nodup_nil,Nat.le_refl _,(fun r c=>by simp),rfl⟩ (by
  intro i x env hx hq;obtain⟨y,hy,rfl⟩:=uu hx
  obtain⟨L,s2,s3,nd,hl,hm,rfl⟩:=hq
  simp only [List.getElem?_map,Option.map_eq_some_iff] at hy;obtain⟨z,hz,rfl⟩:=hy
  have G7:=R.2 z (List.mem_of_getElem? hz)
  have hi:i<rows.length:=(List.getElem?_eq_some_iff.1 hz).1
  obtain⟨M,eM,nM,lM,hM⟩:=pU (f:=fun x=>((Tg.two 0 1).put x [.no,.no,.val (.int i)]).bind fun aE=>((lJ aE[1]?).bind fun x=>iX x (.str "#")).bind fun t=>qA t fun t=>if t then(((lJ aE[2]?).bind fun p=>((lJ aE[0]?).bind fun p=>.ok [p]).bind fun ps=>.ok (p::ps)).bind fun ps=>.ok (.tup ps)).bind fun y=>.ok (some y) else .ok none) (r:=i) (fun c x=>by
   simp only [af,aa,ae,ah,aL,az,au,aS,aQ,aw,ay,ax,reduceIte,J,rQ];cases(x !=35)<;>rfl) z.cps.toList 0
  have lz:(cB 0 (chars z)).length<dF:=by
   rw [cZ];refine Nat.lt_of_le_of_lt (m:=6) ?_ (by decide)
   simpa [chars,Str.length] using G7
  have ll:(L.map rN).length+(M.map rN).length≤dF:=by
   refine Nat.le_trans (m:=100) ?_ (by decide);simp only [zzl];have:z.cps.toList.length=z.length:=by simp [Str.length]
   omega
  refine⟨[.val (fl rows),.own (.lst ((L++M).map rN)),.val (.int i),.val (.str z)],?_,L++M,_,_,List.nodup_append.2 ⟨nd,nM,fun a ha b hb Gu=>by subst Gu;have h1:=((hm a.1 a.2).1 ha).1;have h2:=((hM a.1 a.2).1 hb).1;omega⟩,?_,?_,rfl⟩
  ·simp only [xH,af,aa,ae,ah,aL,az,au,aS,aQ,aw,ay,ax,reduceIte,J,K8,Nat.zero_add,lz];rw [show chars z=z.cps.toList.map fun x=>PV.str ⟨#[x]⟩ from rfl,eM]
   simp only [af,aa,ae,ah,aL,az,au,aS,aQ,aw,ay,ax,reduceIte,J,ll,List.map_append]
  ·have:z.cps.toList.length=z.length:=by simp [Str.length]
   simp only [List.length_append];omega
  ·intro r c;rw [List.mem_append,hm,hM,sO]
   constructor
   ·rintro (⟨h1,h2⟩|⟨rfl,_,x,h3,h4⟩)
    ·exact⟨by omega,h2⟩
    ·exact⟨by omega,z,hz,x,h3,h4⟩
   ·rintro ⟨h1,w,h2,x,h3,h4⟩
    by_cases hr:r=i
    ·subst hr;rw [hz] at h2;cases h2;exact .inr ⟨rfl,Nat.zero_le _,x,h3,h4⟩
    ·exact .inl ⟨by omega,w,h2,x,h3,h4⟩)
 refine⟨L,?_,nd,(by rw [cZ,zzl] at hl;omega),fun r c=>?_⟩
 ·simp only [xH,af,aa,ae,ah,aL,az,au,aS,aQ,aw,ay,ax,reduceIte,J] at e;simp only [b9,af,aa,ae,ah,aL,az,au,aS,aQ,aw,ay,ax,reduceIte,J,LU,e,List.modify_succ_cons,List.modify_zero_cons,F0]
 ·rw [hm];refine⟨fun h=>h.2,fun h=>⟨?_,h⟩⟩
  obtain⟨z,hz,_⟩:=sO.1 h
  have:=(List.getElem?_eq_some_iff.1 hz).1
  rw [cZ,zzl];omega
theorem uW(F:aV)(hp:jV F)(ns:List Int)(k:Int)(hk:0≤k):∃sl cl pr,Wk cl pr∧af F cg [eY ns,.int k]=.ok (wk sl cl pr):=by
 obtain⟨a,ea,a0,a2⟩:=hp ns k 2 hk (by decide)
 obtain⟨b,eb,b0,b4⟩:=hp ns (k+1) 4 (by omega) (by decide)
 obtain⟨c,ec,c0,c4⟩:=hp ns (k+2) 4 (by omega) (by decide)
 obtain⟨v,ev,hv⟩:=og (a:=0) (b:=1) (c:=2) (d:=9) b0 b4
 refine⟨(a==0),v,c,⟨by omega,c0,c4,by omega⟩,?_⟩;simp only [cg,af,aa,ae,ah,aL,az,au,aS,aQ,aw,ay,ax,reduceIte,J,J2,ea,eb,ec,ev]
noncomputable def uc:Ss:=(.cons (.ite (.not (.call "_law_once" (.cons (.comp 1 [1] (.one 0) (.seq (.var 0)) (.bin .add (.var 0) (.bin .mul (.cst (.int 7919)) (.var 1)))) .nil)))
 (.cons (.ret (.cst (.bl false)))
 .nil)
 .nil)
 (.cons (.ite (.cmp .eq (.var 0) (.lst .nil))
  (.cons .brk
  .nil)
  .nil)
 .nil))
theorem qp(F:aV)(ho:∀ns,F "_law_once" [eY ns]=.ok (.bl true))(ns:List Int)(hl:ns.length≤63)(t:Int):ah F uc [.val (eY ns),.val (.int t)]=.ok (if ns=[] then .bk [.val (eY ns),.val (.int t)] else .nx [.val (eY ns),.val (.int t)]):=by
 have l:ns.length<dF:=Nat.lt_of_le_of_lt hl (by decide)
 have s:(aU 7919||aU t)=true:=by rw [Bool.or_eq_true];exact .inl (by decide)
 simp only [uc,af,aa,ae,ah,aL,az,au,aS,aQ,aw,ay,ax,reduceIte,J,Kh,zzl,l];rw [cO (g:=fun n:Int=>.int (n+7919*t)) (fun n _=>by simp only [af,aa,ae,ah,aL,az,au,aS,aQ,aw,ay,ax,reduceIte,J,s])]
 have e:=ho (ns.map fun n=>n+7919*t)
 simp only [eY,List.map_map,Function.comp_def] at e;simp only [af,aa,ae,ah,aL,az,au,aS,aQ,aw,ay,ax,reduceIte,J,e,eq_nil]
 by_cases h:ns=[]
 ·simp only [h,decide_true,af,aa,ae,ah,aL,az,au,aS,aQ,aw,ay,ax,reduceIte,J]
 ·simp only [h,decide_false,af,aa,ae,ah,aL,az,au,aS,aQ,aw,ay,ax,reduceIte,J]
theorem Dy(F:aV)(ho:∀ns,F "_law_once" [eY ns]=.ok (.bl true))(ns:List Int)(hl:ns.length≤63):af F d_law [eY ns]=.ok (.bl true):=by
 have e:∃t:Int,forL (fun x env=>((Tg.one 1).put x env).bind fun aE=>ah F uc aE) (dw 0 (5:Int).toNat) [.val (eY ns),.no]=.ok (.nx [.val (eY ns),.val (.int t)]):=by
  rw [show dw 0 (5:Int).toNat=[.int 0,.int 1,.int 2,.int 3,.int 4] from rfl]
  by_cases h:ns=[]
  ·refine⟨0,?_⟩;simp only [forL,KH,uA,List.set_cons_succ,List.set_cons_zero,qp F ho ns hl,if_pos h]
  ·refine⟨4,?_⟩;simp only [forL,KH,uA,List.set_cons_succ,List.set_cons_zero,qp F ho ns hl,h,if_false]
 obtain⟨t,e⟩:=e
 have s:aP 5=true:=by decide
 simp only [uc,af,aa,ae,ah,aL,az,au,aS,aQ,aw,ay,ax,reduceIte,J] at e;simp only [d_law,af,aa,ae,ah,aL,az,au,aS,aQ,aw,ay,ax,reduceIte,J,s,e]
end K12
namespace K12
open PySem L2 Ci KJ
theorem fq{α σ:Type}{body:PV→Sl→Res Ci.Fl}{g:α→PV}{mk:List PV→σ→Sl}{app:α→List PV}{m M:Nat}:∀(l:List α) (acc:List PV) (s:σ),(∀a∈l,(app a).length≤m)→(∀a∈l,∀acc s,acc.length+m≤M→∃s',body (g a) (mk acc s)=.ok (.nx (mk (acc++app a) s')))→acc.length+m*l.length≤M→∃s',forL body (l.map g) (mk acc s)=.ok (.nx (mk (acc++l.flatMap app) s'))
 |[],acc,s,_,_,_=>⟨s,by simp [forL]⟩
 |a::l,acc,s,h1,h2,h3=>by
  have ha:=h1 a (List.mem_cons_self ..)
  rw [List.length_cons,Nat.mul_succ] at h3;obtain⟨s1,e1⟩:=h2 a (List.mem_cons_self ..) acc s (by omega)
  obtain⟨s2,e2⟩:=fq l (acc++app a) s1 (fun b hb=>h1 b (List.mem_cons_of_mem _ hb)) (fun b hb=>h2 b (List.mem_cons_of_mem _ hb)) (by rw [List.length_append];omega)
  refine⟨s2,?_⟩;simp only [List.map_cons,forL,e1,uA,e2,List.flatMap_cons,List.append_assoc]
def ft(x:Int):List Int:=[x-1+(0:Nat),x-1+(1:Nat),x-1+(2:Nat)]
theorem GO(x:Int):dw (x-1) (x+2-(x-1)).toNat=(ft x).map .int:=by
 rw [show(x+2-(x-1)).toNat=3 by omega]
 rfl
noncomputable def oI:Ss:=(.cons (.ite (.and (.cmp .ne (.tup (.cons (.var 3) (.cons (.var 4) .nil))) (.var 1)) (.call "is_open" (.cons (.var 0) (.cons (.tup (.cons (.var 3) (.cons (.var 4) .nil))) .nil))))
 (.cons (.app 2 (.tup (.cons (.var 3) (.cons (.var 4) .nil))))
 .nil)
 .nil)
 .nil)
noncomputable def oO:Ss:=(.cons (.for_ (.one 4) (.rng2 (.bin .sub (.sub (.var 1) (.cst (.int 1))) (.cst (.int 1))) (.bin .add (.sub (.var 1) (.cst (.int 1))) (.cst (.int 2)))) oI) .nil)
def zJ(rows:List Str)(r c r' c':Int):Bool:=!((r'==r)&&((c'==c)&&true))&&bt rows r' c'
def p5(rows:List Str)(r c r':Int):List (Int×Int):=(ft c).flatMap fun c'=>if zJ rows r c r' c' then [(r',c')] else []
def mO(rows:List Str)(r c:Int):List (Int×Int):=(ft r).flatMap (p5 rows r c)
theorem iq(rows:List Str)(r c r':Int):(p5 rows r c r').length≤3:=by
 have:∀c',(if zJ rows r c r' c' then [(r',c')] else []).length≤1:=fun c'=>by split<;>simp
 simp only [p5,ft,List.flatMap_cons,List.flatMap_nil,List.length_append,List.length_nil];have h1:=this (c-1+(0:Nat));have h2:=this (c-1+(1:Nat));have h3:=this (c-1+(2:Nat))
 omega
theorem o6(rows:List Str)(r c:Int):(mO rows r c).length≤9:=by
 simp only [mO,ft,List.flatMap_cons,List.flatMap_nil,List.length_append,List.length_nil];have h1:=iq rows r c (r-1+(0:Nat));have h2:=iq rows r c (r-1+(1:Nat));have h3:=iq rows r c (r-1+(2:Nat))
 omega
theorem kq{rows:List Str}{r c r' c':Int}:(r',c')∈mO rows r c↔¬far r c r' c'∧bt rows r' c'=true:=by
 have hn:∀x y:Int,y∈ft x↔¬1<x-y∧¬1<y-x:=by
  intro x y;simp only [ft,List.mem_cons,List.not_mem_nil,or_false];omega
 simp only [mO,p5,List.mem_flatMap,hn]
 constructor
 ·rintro ⟨a,ha,b,hb,h⟩
  split at h
  ·rename_i hk;simp only [List.mem_singleton,Prod.mk.injEq] at h;obtain⟨rfl,rfl⟩:=h
   simp only [zJ,zza,Bool.not_eq_true',Bool.and_true] at hk;refine⟨?_,hk.2⟩;unfold far;have h1:=hk.1
   rw [Bool.and_eq_false_iff] at h1;simp only [beq_eq_false_iff_ne,ne_eq] at h1;omega
  ·cases h
 ·rintro ⟨hf,ho⟩
  unfold far at hf;refine⟨r',by omega,c',by omega,?_⟩;have:zJ rows r c r' c'=true:=by
   simp only [zJ,ho,Bool.and_true,Bool.not_eq_true',Bool.and_eq_false_iff,beq_eq_false_iff_ne,ne_eq];omega
  rw [if_pos this];exact List.mem_singleton.2 rfl
theorem kA{r:Int}(h0:0≤r)(h6:r<6):(aP (r-1)&&aP (r+2))=true:=by
 simp only [aP,zza,decide_eq_true_eq];omega
theorem EC(F:aV)(ho:rq F){rows:List Str}(R:qB rows){r c:Int}(Nw:0≤r)(hr:r<6)(Oi:0≤c)(hc:c<6):
 af F bj [fl rows,sp r c]=.ok (.lst ((mO rows r c).map C0)):=by
 have inner:∀(r':Int) (acc:List PV) (s4:Ci.Slot),acc.length+3≤50→∃LC,forL (fun x env=>((Tg.one 4).put x env).bind fun aE=>ah F oI aE) ((ft c).map .int) [.val (fl rows),.val (sp r c),.own (.lst acc),.val (.int r'),s4]=.ok (.nx [.val (fl rows),.val (sp r c),.own (.lst (acc++(p5 rows r c r').map C0)),.val (.int r'),LC]):=by
  intro r' acc s4 hl;obtain⟨s',e⟩:=fq (body:=fun x env=>((Tg.one 4).put x env).bind fun aE=>ah F oI aE) (g:=PV.int) (mk:=fun acc (s:Ci.Slot)=>[.val (fl rows),.val (sp r c),.own (.lst acc),.val (.int r'),s]) (app:=fun c'=>if zJ rows r c r' c' then [sp r' c'] else []) (m:=1) (M:=60) (ft c) acc s4 (fun c' _=>by split<;>simp) (fun c' _ acc s hl=>by
   have l:acc.length<dF:=Nat.lt_of_le_of_lt (m:=60) (by omega) (by decide)
   refine⟨.val (.int c'),?_⟩;cases h1:(!((r'==r)&&((c'==c)&&true))) with
   |false=>simp only [oI,af,aa,ae,ah,aL,az,au,aS,aQ,aw,ay,ax,reduceIte,J,J2,h1,zJ,Bool.false_and,List.append_nil]
   |true=>
    cases h2:bt rows r' c' with
    |false=>simp only [oI,af,aa,ae,ah,aL,az,au,aS,aQ,aw,ay,ax,reduceIte,J,J2,h1,h2,zJ,ho rows R,Bool.and_false,List.append_nil]
    |true=>simp only [oI,af,aa,ae,ah,aL,az,au,aS,aQ,aw,ay,ax,reduceIte,J,J2,h1,h2,zJ,ho rows R,Bool.and_self,l]) (by show acc.length+1*3≤60;omega)
  have k:(ft c).flatMap (fun c'=>if zJ rows r c r' c' then [sp r' c'] else [])=(p5 rows r c r').map C0:=by
   simp only [p5,List.map_flatMap]
   congr 1
   funext c'
   split<;>rfl
  exact⟨s',by rw [e,k]⟩
 obtain⟨s',e⟩:=fq (body:=fun x env=>((Tg.one 3).put x env).bind fun aE=>ah F oO aE) (g:=PV.int) (mk:=fun acc (s:Ci.Slot×Ci.Slot)=>[.val (fl rows),.val (sp r c),.own (.lst acc),s.1,s.2]) (app:=fun r'=>(p5 rows r c r').map C0) (m:=3) (M:=50) (ft r) [] (.no,.no) (fun r' _=>by rw [zzl];exact iq ..) (fun r' _ acc s hl=>by
  obtain⟨LC,e⟩:=inner r' acc s.2 hl
  refine⟨(.val (.int r'),LC),?_⟩;simp only [oI,af,aa,ae,ah,aL,az,au,aS,aQ,aw,ay,ax,reduceIte,J,J2] at e;simp only [oO,oI,af,aa,ae,ah,aL,az,au,aS,aQ,aw,ay,ax,reduceIte,J,J2,kA Oi hc,GO,e]) (by show 0+3*3≤50;omega)
 simp only [oO,oI,af,aa,ae,ah,aL,az,au,aS,aQ,aw,ay,ax,reduceIte,J,J2] at e;simp only [bj,af,aa,ae,ah,aL,az,au,aS,aQ,aw,ay,ax,reduceIte,J,J2,kA Nw hr,GO,e,F0,mO,List.map_flatMap]
def E1(rows:List Str)(sl:Bool)(cl pr:Int)(u v:List Int)(e:Int):Prop:=∃r c r' c',u=[r,c]∧v=[r',c']∧bt rows r c=true∧bt rows r' c'=true∧cu rows sl cl pr r c r' c'=some e
abbrev tK(t:List Int×Int):PV:=.tup [aq t.1,.int t.2]
def rL(F:aV):Prop:=∀rows w,Fl rows w→∀sl cl pr,Wk cl pr→∀r c r' c',bt rows r c=true→bt rows r' c'=true→F "step_cost" [fl rows,wk sl cl pr,sp r c,sp r' c']=.ok (oP (cu rows sl cl pr r c r' c'))
def C6(F:aV):Prop:=∀rows,qB rows→∀r c,0≤r→r<6→0≤c→c<6→F "open_spots_beside" [fl rows,sp r c]=.ok (.lst ((mO rows r c).map C0))
def j5(F:aV):Prop:=∀rows,qB rows→∀r c,bt rows r c=true→F "need_open" [fl rows,sp r c]=.ok .non
noncomputable def iH(rows:List Str)(sl:Bool)(cl pr r c:Int):List (List Int×Int):=(mO rows r c).flatMap fun p=>(cu rows sl cl pr r c p.1 p.2).toList.map fun e=>([p.1,p.2],e)
def g9(F:aV):Prop:=∀rows w,Fl rows w→∀sl cl pr,Wk cl pr→∀r c,bt rows r c=true→F "steps_from" [fl rows,wk sl cl pr,aq [r,c]]=.ok (.lst ((iH rows sl cl pr r c).map tK))
noncomputable def Jl:Ss:=(.cons (.set 5 (.call "step_cost" (.cons (.var 0) (.cons (.var 1) (.cons (.var 2) (.cons (.var 4) .nil))))))
 (.cons (.ite (.cmp .isn (.var 5) (.cst .non))
  (.cons (.app 3 (.tup (.cons (.var 4) (.cons (.var 5) .nil))))
  .nil)
  .nil)
 .nil))
theorem CI{rows:List Str}{w:Nat}(L:Fl rows w){r c:Int}(h:bt rows r c=true):0≤r∧r<6∧0≤c∧c<6:=by
 have h1:=iz L h
 have h2:=L.rok.1
 have h3:=L.rok.2 _ (List.getElem_mem L.ne)
 rw [L.rect _ (List.getElem_mem L.ne)] at h3;omega
theorem yi(F:aV)(hn:j5 F)(hb:C6 F)(hs:rL F):∀rows w,Fl rows w→∀sl cl pr,Wk cl pr→∀r c,bt rows r c=true→af F bM [fl rows,wk sl cl pr,aq [r,c]]=.ok (.lst ((iH rows sl cl pr r c).map tK)):=by
 intro rows w L sl cl pr V r c h;obtain⟨r0,r6,c0,c6⟩:=CI L h
 have Lo:∀p:Int×Int,((cu rows sl cl pr r c p.1 p.2).toList.map fun e=>(([p.1,p.2]:List Int),e)).length≤1:=fun p=>by cases cu rows sl cl pr r c p.1 p.2<;>simp
 obtain⟨s',e⟩:=fq (body:=fun x env=>((Tg.one 4).put x env).bind fun aE=>ah F Jl aE) (g:=C0) (mk:=fun acc (s:Ci.Slot×Ci.Slot)=>[.val (fl rows),.val (wk sl cl pr),.val (sp r c),.own (.lst acc),s.1,s.2]) (app:=fun p=>((cu rows sl cl pr r c p.1 p.2).toList.map fun e=>(([p.1,p.2]:List Int),e)).map tK) (m:=1) (M:=50) (mO rows r c) [] (.no,.no) (fun p _=>by rw [zzl];exact Lo p) (fun p hp acc s hl=>by
  have l:acc.length<dF:=Nat.lt_of_le_of_lt (m:=50) (by omega) (by decide)
  have e:=hs rows w L sl cl pr V r c p.1 p.2 h (kq.1 hp).2
  cases hq:cu rows sl cl pr r c p.1 p.2 with
  |none=>
   rw [hq] at e;have e5:e8 .non .non=.ok (.bl false):=rfl
   simp only [oP] at e;exact⟨(.val (C0 p),.val .non),by simp only [Jl,af,aa,ae,ah,aL,az,au,aS,aQ,aw,ay,ax,reduceIte,J,J2,e,e5,Option.toList_none,List.append_nil]⟩
  |some v=>
   rw [hq] at e;have e5:e8 (.int v) .non=.ok (.bl true):=rfl
   simp only [oP] at e;exact⟨(.val (C0 p),.val (.int v)),by simp only [Jl,af,aa,ae,ah,aL,az,au,aS,aQ,aw,ay,ax,reduceIte,J,J2,e,e5,Option.toList_some,l];rfl⟩) (by
  have:=o6 rows r c
  show 0+1*_≤50
  omega)
 have k:aq [r,c]=sp r c:=rfl
 simp only [Jl,af,aa,ae,ah,aL,az,au,aS,aQ,aw,ay,ax,reduceIte,J,J2] at e;simp only [k,bM,af,aa,ae,ah,aL,az,au,aS,aQ,aw,ay,ax,reduceIte,J,J2,hn rows L.rok r c h,hb rows L.rok r c r0 r6 c0 c6,e,F0,iH,List.map_flatMap]
theorem rh(rows:List Str)(sl:Bool)(cl pr r c:Int):(iH rows sl cl pr r c).length≤9:=by
 have:=o6 rows r c
 have Lo:∀p:Int×Int,((cu rows sl cl pr r c p.1 p.2).toList.map fun e=>(([p.1,p.2]:List Int),e)).length≤1:=fun p=>by cases cu rows sl cl pr r c p.1 p.2<;>simp
 have key:∀l:List (Int×Int),(l.flatMap fun p=>(cu rows sl cl pr r c p.1 p.2).toList.map fun e=>(([p.1,p.2]:List Int),e)).length≤l.length:=by
  intro l
  induction l with
  |nil=>exact Nat.le_refl _
  |cons p l ih=>
   have:=Lo p
   simp only [List.flatMap_cons,List.length_append,List.length_cons];omega
 exact Nat.le_trans (key _) this
theorem sj{rows:List Str}{sl:Bool}{cl pr r c:Int}(h:bt rows r c=true)(v:List Int)(e:Int):(v,e)∈iH rows sl cl pr r c↔E1 rows sl cl pr [r,c] v e:=by
 unfold iH;simp only [List.mem_flatMap,List.mem_map,Option.mem_toList,Option.mem_def,Prod.mk.injEq]
 constructor
 ·rintro ⟨p,hp,e',he,rfl,rfl⟩
  exact⟨r,c,p.1,p.2,rfl,rfl,h,(kq.1 hp).2,he⟩
 ·rintro ⟨a,b,r',c',hu,rfl,_,ho,he⟩
  cases hu;refine⟨(r',c'),kq.2 ⟨fun hf=>?_,ho⟩,e,he,rfl,rfl⟩
  rw [show cu rows sl cl pr r c r' c'=none from if_pos hf] at he;cases he
end K12
namespace K12
open PySem L2 Ci KJ
theorem eR:∀k:List Int,intsOf (k.map .int)=some k
 |[]=>rfl
 |i::k=>by simp only [List.map_cons,intsOf,eR k,Option.map_some]
theorem dY(k:List Int):iF (aq k)=some k:=eR k
theorem aX{α:Type}:∀{ks:List (List Int)} {vs:List α} (k:List Int),ks.length=vs.length→cJ ks k=(ai ks vs k).isSome
 |[],[],_,_=>rfl
 |k'::ks,v::vs,k,h=>by
  have ih:=aX (ks:=ks) (vs:=vs) k (by simpa using h)
  by_cases e:k'=k
  ·simp [cJ,ai,e]
  ·simp only [cJ] at ih;simp [cJ,ai,e,ih]
theorem fE{α β:Type}(f:α→β):∀(ks:List (List Int)) (vs:List α) (k:List Int),ai ks (vs.map f) k=(ai ks vs k).map f
 |[],_,_=>by simp [ai]
 |_::_,[],_=>by simp [ai]
 |k'::ks,v::vs,k=>by
  simp only [List.map_cons,ai,fE f ks vs k];split<;>rfl
theorem kK{α β:Type}(f:α→β):∀(ks:List (List Int)) (vs:List α) (k:List Int),aW ks (vs.map f) k=(aW ks vs k).map f
 |[],_,_=>by simp [aW]
 |_::_,[],_=>by simp [aW]
 |k'::ks,v::vs,k=>by
  simp only [List.map_cons,aW,kK f ks vs k];split<;>rfl
theorem mr{α β:Type}(f:α→β)(ks:List (List Int))(vs:List α)(k:List Int)(p:α):bB ks (vs.map f) k (f p)=(bB ks vs k p).map f:=by
 unfold bB;split
 ·rw [List.zipWith_map_right,List.map_zipWith]
  congr 1
  funext a b
  split<;>rfl
 ·simp
theorem p9{α:Type}(k:List Int)(p:α):∀(ks:List (List Int)) (vs:List α) (x:List Int),ai ks (List.zipWith (fun k' v=>if k'=k then p else v) ks vs) x=(ai ks vs x).map fun v=>if x=k then p else v
 |[],_,_=>by simp [ai]
 |_::_,[],_=>by simp [ai]
 |k'::ks,v::vs,x=>by
  simp only [List.zipWith_cons_cons,ai,p9 k p ks vs x]
  by_cases e:k'=x
  ·subst e;simp
  ·simp [e]
theorem mi{α:Type}(k:List Int)(p:α):∀(ks:List (List Int)) (vs:List α) (x:List Int),ks.length=vs.length→ai (ks++[k]) (vs++[p]) x=(ai ks vs x).or (if k=x then some p else none)
 |[],[],x,_=>by simp [ai]
 |k'::ks,v::vs,x,h=>by
  simp only [List.cons_append,ai,mi k p ks vs x (by simpa using h)];split<;>simp
theorem bA{α:Type}{ks:List (List Int)}{vs:List α}(h:ks.length=vs.length)(k:List Int)(p:α)(x:List Int):ai (bE ks k) (bB ks vs k p) x=if k=x then some p else ai ks vs x:=by
 have hh:=aX (vs:=vs) k h
 unfold bE bB;cases hk:cJ ks k with
 |true=>
  rw [hk] at hh;simp only [if_true,p9]
  by_cases e:k=x
  ·subst e;obtain⟨v,hv⟩:=Option.isSome_iff_exists.1 hh.symm
   simp [hv]
  ·rw [if_neg e];have e':¬x=k:=fun z=>e z.symm
   cases ai ks vs x<;>simp [e']
 |false=>
  rw [hk] at hh;simp only [Bool.false_eq_true,if_false,mi k p ks vs x h]
  by_cases e:k=x
  ·subst e;have:ai ks vs k=none:=by simpa using hh.symm
   simp [this]
  ·simp [e]
theorem kf{α:Type}{ks:List (List Int)}{vs:List α}(h:ks.length=vs.length)(k:List Int)(p:α):(bE ks k).length=(bB ks vs k p).length:=by
 unfold bE bB;split<;>simp [h]
theorem mq(ks:List (List Int))(k:List Int):(bE ks k).length≤ks.length+1:=by
 unfold bE;split<;>simp
theorem cC{ks:List (List Int)}{k:List Int}:cJ ks k=true↔k∈ks:=by
 simp [cJ]
theorem fI{ks:List (List Int)}(h:ks.Nodup)(k:List Int):(bE ks k).Nodup:=by
 unfold bE;split
 ·exact h
 ·rename_i hk;rw [cC] at hk;refine List.nodup_append.2 ⟨h,by simp,?_⟩;intro a ha b hb e;rw [List.mem_singleton] at hb;exact hk (hb▸e▸ha)
theorem dA{α:Type}(k:List Int):∀(ks:List (List Int)) (vs:List α) (x:List Int),ks.length=vs.length→ai (bU ks k) (aW ks vs k) x=if k=x then none else ai ks vs x
 |[],[],x,_=>by simp [bU,aW,ai]
 |k'::ks,v::vs,x,h=>by
  have ih:=dA k ks vs x (by simpa using h)
  simp only [bU] at ih
  by_cases e:k'=k
  ·subst e;simp only [bU,aW,ai,List.filter_cons,ne_eq,not_true_eq_false,decide_false,Bool.false_eq_true,if_false,if_true,ih];split<;>simp_all
  ·simp only [bU,aW,ai,List.filter_cons,ne_eq,e,not_false_eq_true,decide_true,if_true,if_false]
   by_cases e2:k'=x
   ·subst e2;have:¬k=k':=fun z=>e z.symm
    simp [ai,this]
   ·simp only [ai,e2,if_false];exact ih
theorem lY{α:Type}(k:List Int):∀(ks:List (List Int)) (vs:List α),ks.length=vs.length→(bU ks k).length=(aW ks vs k).length
 |[],[],_=>rfl
 |k'::ks,v::vs,h=>by
  have ih:=lY k ks vs (by simpa using h)
  simp only [bU] at ih
  by_cases e:k'=k
  ·simpa [bU,aW,e] using ih
  ·simpa [bU,aW,e] using ih
theorem f6{α:Type}:∀{ks:List (List Int)} {vs:List α} {i:Nat} {k:List Int} {q:α},ks.Nodup→ks[i]?=some k→vs[i]?=some q→ai ks vs k=some q
 |[],_,_,_,_,_,h,_=>by simp at h
 |_::_,[],_,_,_,_,_,h=>by simp at h
 |k'::ks,v::vs,0,k,q,_,h1,h2=>by
  simp only [List.getElem?_cons_zero,Option.some.injEq] at h1 h2;simp [ai,h1,h2]
 |k'::ks,v::vs,i+1,k,q,nd,h1,h2=>by
  simp only [List.getElem?_cons_succ] at h1 h2;have C2:=List.nodup_cons.1 nd
  have:¬k'=k:=fun z=>C2.1 (z▸List.mem_of_getElem? h1)
  simp only [ai,this,if_false];exact f6 C2.2 h1 h2
theorem qt{α:Type}:∀{ks:List (List Int)} {vs:List α} {k:List Int} {q:α},ai ks vs k=some q→q∈vs
 |[],_,_,_,h=>by simp [ai] at h
 |_::_,[],_,_,h=>by simp [ai] at h
 |k'::ks,v::vs,k,q,h=>by
  simp only [ai] at h;split at h
  ·cases h;exact List.mem_cons_self ..
  ·exact List.mem_cons_of_mem _ (qt h)
theorem iA:∀(cs:List Int) (b:Nat) (m:Int) (pre:List Int),pre[b]?=some m→(∀x∈pre,m≤x)→∃y,(pre++cs)[dX cs pre.length b m]?=some y∧∀x∈pre++cs,y≤x
 |[],b,m,pre,h1,h2=>⟨m,by simpa [dX] using h1,by simpa using h2⟩
 |c::cs,b,m,pre,h1,h2=>by
  have hb:=(List.getElem?_eq_some_iff.1 h1).1
  simp only [dX];have hl:pre.length+1=(pre++[c]).length:=by simp
  split
  ·rename_i hc;have:=iA cs pre.length c (pre++[c]) (by simp) (fun x hx=>by
    simp only [List.mem_append,List.mem_singleton] at hx;rcases hx with hx|hx
    ·have:=h2 x hx;omega
    ·omega)
   rw [←hl] at this
   simpa using this
  ·rename_i hc;have:=iA cs b m (pre++[c]) (by rw [List.getElem?_append_left hb];exact h1) (fun x hx=>by
    simp only [List.mem_append,List.mem_singleton] at hx;rcases hx with hx|hx
    ·exact h2 x hx
    ·omega)
   rw [←hl] at this
   simpa using this
theorem Az{cs:List Int}(h:cs≠[]):∃i y,xQ cs=some i∧cs[i]?=some y∧∀x∈cs,y≤x:=by
 cases cs with
 |nil=>exact absurd rfl h
 |cons c cs=>
  obtain⟨y,h1,h2⟩:=iA cs 0 c [c] rfl (by simp)
  exact⟨_,y,rfl,h1,h2⟩
abbrev val(q:Int×PV):PV:=.tup [.int q.1,q.2]
theorem mz:∀V:List (Int×PV),gH (V.map val)=some (V.map (·.1))
 |[]=>rfl
 |q::V=>by simp only [List.map_cons,gH,mz V,Option.map_some]
theorem v8{ks:List (List Int)}{V:List (Int×PV)}(h:ks.length=V.length)(nd:ks.Nodup)(jg:ks≠[]):∃k q,((xQ (V.map (·.1))).bind fun x=>ks[x]?)=some k∧ai ks V k=some q∧∀x q',ai ks V x=some q'→q.1≤q'.1:=by
 have hV:V.map (·.1)≠[]:=by
  intro z;rw [List.map_eq_nil_iff] at z;rw [z] at h;exact jg (List.eq_nil_of_length_eq_zero h)
 obtain⟨i,y,h1,h2,h3⟩:=Az hV
 rw [List.getElem?_map,Option.map_eq_some_iff] at h2;obtain⟨q,hq,rfl⟩:=h2
 have hi:=(List.getElem?_eq_some_iff.1 hq).1
 have hk:ks[i]?=some (ks[i]'(by omega)):=zzg _
 refine⟨_,q,by rw [h1];exact hk,f6 nd hk hq,fun x q' hx=>h3 _ (List.mem_map.2 ⟨q',qt hx,rfl⟩)⟩
end K12
namespace K12
open PySem L2 Ci KJ
inductive dU(E:List Int→List Int→Int→Prop)(s:List Int):List Int→Int→Prop
 |here:dU E s s 0
 |go {u v:List Int} {d e:Int}:dU E s u d→E u v e→dU E s v (d+e)
abbrev Ks:=List (List Int)
abbrev Vs:=List (Int×PV)
def Kn(kr:Ks)(Vr:Vs)(kw:Ks)(Vw:Vs)(k:List Int)(c:Int):Prop:=(∃q,ai kr Vr k=some q∧q.1≤c)∨∃q,ai kw Vw k=some q∧q.1≤c
structure oK(E:List Int→List Int→Int→Prop)(O:List Int→Prop)(s:List Int)(kr:Ks)(Vr:Vs)(kw:Ks)(Vw:Vs)(X:List Int→List Int→Int→Prop)(n:Nat)(b:Int):Prop where
 lr:kr.length=Vr.length
 lw:kw.length=Vw.length
 nw:kw.Nodup
 dis:∀k q q',ai kr Vr k=some q→ai kw Vw k=some q'→False
 wr:∀k q,ai kr Vr k=some q→O k∧dU E s k q.1
 ww:∀k q,ai kw Vw k=some q→O k∧dU E s k q.1
 mono:∀k q k' q',ai kr Vr k=some q→ai kw Vw k'=some q'→q.1≤q'.1
 clo:∀u q,ai kr Vr u=some q→∀v e,X u v e→Kn kr Vr kw Vw v (q.1+e)
 st:Kn kr Vr kw Vw s 0
 cw:kw.length≤n
 pre:∀k q,ai kr Vr k=some q∨ai kw Vw k=some q→(q.2=.non∧k=s∧q.1=0)∨∃y q' e,q.2=aq y∧ai kr Vr y=some q'∧E y k e∧q.1=q'.1+e
 bd:∀k q,ai kr Vr k=some q∨ai kw Vw k=some q→0≤q.1∧q.1≤b
 nr:kr.Nodup
theorem Kn.put{kr:Ks}{Vr:Vs}{kw:Ks}{Vw:Vs}(h:kw.length=Vw.length){v:List Int}{c:Int}{p:PV}(hv:∀q,ai kw Vw v=some q→c≤q.1){k:List Int}{x:Int}(H:Kn kr Vr kw Vw k x):Kn kr Vr (bE kw v) (bB kw Vw v (c,p)) k x:=by
 rcases H with H|⟨q,h1,h2⟩
 ·exact .inl H
 ·refine .inr ?_;rw [bA h]
  by_cases e:v=k
  ·subst e;exact⟨(c,p),if_pos rfl,Int.le_trans (hv q h1) h2⟩
  ·exact⟨q,by rw [if_neg e];exact h1,h2⟩
theorem oK.put{E:List Int→List Int→Int→Prop}{O:List Int→Prop}{s:List Int}{kr:Ks}{Vr:Vs}{kw:Ks}{Vw:Vs}{X:List Int→List Int→Int→Prop}{n:Nat}{b:Int}(M:oK E O s kr Vr kw Vw X n b){u v:List Int}{d e:Int}{p0:PV}(hu:ai kr Vr u=some (d,p0))(hd:∀k q,ai kr Vr k=some q→q.1≤d)(he:E u v e)(h0:0<e)(hb:d+e≤b)(ho:O v)
 (hv:ai kr Vr v=none) (hw:∀q,ai kw Vw v=some q→d+e≤q.1):oK E O s kr Vr (bE kw v) (bB kw Vw v (d+e,aq u)) (fun a b c=>X a b c∨a=u∧b=v∧c=e) (n+1) b where
 lr:=M.lr
 lw:=kf M.lw _ _
 nw:=fI M.nw _
 dis:=fun k q q' h1 h2=>by
  rw [bA M.lw] at h2;split at h2
  ·rename_i z;subst z;rw [hv] at h1;cases h1
  ·exact M.dis k q q' h1 h2
 wr:=M.wr
 ww:=fun k q h=>by
  rw [bA M.lw] at h;split at h
  ·rename_i z;subst z;cases h;exact⟨ho,.go (M.wr u _ hu).2 he⟩
  ·exact M.ww k q h
 mono:=fun k q k' q' h1 h2=>by
  rw [bA M.lw] at h2;split at h2
  ·cases h2;have:=hd k q h1;show q.1≤d+e;omega
  ·exact M.mono k q k' q' h1 h2
 clo:=fun a q h1 b c hx=>by
  rcases hx with hx|⟨rfl,rfl,rfl⟩
  ·exact(M.clo a q h1 b c hx).put M.lw hw
  ·rw [hu] at h1;cases h1;exact .inr ⟨(d+c,aq a),by rw [bA M.lw,if_pos rfl],Int.le_refl _⟩
 st:=M.st.put M.lw hw
 cw:=by have:=mq kw v;have:=M.cw;omega
 pre:=fun k q h=>by
  rcases h with h|h
  ·exact M.pre k q (.inl h)
  ·rw [bA M.lw] at h;split at h
   ·rename_i z;subst z;cases h;exact .inr ⟨u,(d,p0),e,rfl,hu,he,rfl⟩
   ·exact M.pre k q (.inr h)
 bd:=fun k q h=>by
  rcases h with h|h
  ·exact M.bd k q (.inl h)
  ·rw [bA M.lw] at h;split at h
   ·cases h;have:=(M.bd u _ (.inl hu)).1;exact⟨by show 0≤d+e;omega,hb⟩
   ·exact M.bd k q (.inr h)
 nr:=M.nr
theorem oK.keep{E:List Int→List Int→Int→Prop}{O:List Int→Prop}{s:List Int}{kr:Ks}{Vr:Vs}{kw:Ks}{Vw:Vs}{X Y:List Int→List Int→Int→Prop}{n m:Nat}{b b':Int}(M:oK E O s kr Vr kw Vw X n b)(hm:n≤m)(hb:b≤b')(h:∀u q,ai kr Vr u=some q→∀v e,Y u v e→Kn kr Vr kw Vw v (q.1+e)):oK E O s kr Vr kw Vw Y m b':=
 ⟨M.lr,M.lw,M.nw,M.dis,M.wr,M.ww,M.mono,h,M.st,Nat.le_trans M.cw hm,M.pre,fun k q z=>⟨(M.bd k q z).1,Int.le_trans (M.bd k q z).2 hb⟩,M.nr⟩
theorem Kn.move{kr:Ks}{Vr:Vs}{kw:Ks}{Vw:Vs}(hr:kr.length=Vr.length)(hw:kw.length=Vw.length){k:List Int}{q0:Int×PV}(h0:ai kw Vw k=some q0)(hk:ai kr Vr k=none){x:List Int}{c:Int}(H:Kn kr Vr kw Vw x c):Kn (bE kr k) (bB kr Vr k q0) (bU kw k) (aW kw Vw k) x c:=by
 unfold Kn;rw [bA hr,dA k kw Vw x hw]
 by_cases e:k=x
 ·subst e;rcases H with⟨q,h1,_⟩|⟨q,h1,h2⟩
  ·rw [hk] at h1;cases h1
  ·rw [h0] at h1;cases h1;exact .inl ⟨q0,if_pos rfl,h2⟩
 ·simp only [e,if_false];exact H
theorem oK.move{E:List Int→List Int→Int→Prop}{O:List Int→Prop}{s:List Int}{kr:Ks}{Vr:Vs}{kw:Ks}{Vw:Vs}{n:Nat}{b:Int}(M:oK E O s kr Vr kw Vw E n b){k:List Int}{q0:Int×PV}(h0:ai kw Vw k=some q0)(hl:∀x q',ai kw Vw x=some q'→q0.1≤q'.1):
 oK E O s (bE kr k) (bB kr Vr k q0) (bU kw k) (aW kw Vw k) (fun a b c=>E a b c∧a≠k) n b∧ai (bE kr k) (bB kr Vr k q0) k=some q0∧∀x q,ai (bE kr k) (bB kr Vr k q0) x=some q→q.1≤q0.1:=by
 have hk:ai kr Vr k=none:=by
  cases h:ai kr Vr k with
  |none=>rfl
  |some q=>exact(M.dis k q q0 h h0).elim
 have old:∀x q,ai (bE kr k) (bB kr Vr k q0) x=some q∨ai (bU kw k) (aW kw Vw k) x=some q→ai kr Vr x=some q∨ai kw Vw x=some q:=fun x q h=>by
  rcases h with h|h
  ·rw [bA M.lr] at h;split at h
   ·rename_i z;subst z;cases h;exact .inr h0
   ·exact .inl h
  ·rw [dA k kw Vw x M.lw] at h;split at h
   ·cases h
   ·exact .inr h
 refine⟨?_,by rw [bA M.lr,if_pos rfl],fun x q h=>?_⟩
 ·refine⟨kf M.lr _ _,lY k kw Vw M.lw,M.nw.filter _,fun x q q' h1 h2=>?_,fun x q h=>?_,fun x q h=>?_,fun x q x' q' h1 h2=>?_,fun u q h1 v e hx=>?_,M.st.move M.lr M.lw h0 hk,Nat.le_trans (List.length_filter_le ..) M.cw,fun x q h=>?_,fun x q h=>M.bd x q (old x q h),fI M.nr _⟩
  ·rw [bA M.lr] at h1;rw [dA k kw Vw x M.lw] at h2;split at h2
   ·cases h2
   ·rename_i z;rw [if_neg z] at h1;exact M.dis x q q' h1 h2
  ·rw [bA M.lr] at h;split at h
   ·rename_i z;subst z;cases h;exact M.ww k _ h0
   ·exact M.wr x q h
  ·rw [dA k kw Vw x M.lw] at h;split at h
   ·cases h
   ·exact M.ww x q h
  ·rw [bA M.lr] at h1;rw [dA k kw Vw x' M.lw] at h2;split at h2
   ·cases h2
   ·split at h1
    ·cases h1;exact hl x' q' h2
    ·exact M.mono x q x' q' h1 h2
  ·rw [bA M.lr,if_neg (fun z=>hx.2 z.symm)] at h1;exact(M.clo u q h1 v e hx.1).move M.lr M.lw h0 hk
  ·rcases M.pre x q (old x q h) with z|⟨y,q',e,z1,z2,z3⟩
   ·exact .inl z
   ·refine .inr ⟨y,q',e,z1,?_,z3⟩;rw [bA M.lr,if_neg (fun z=>by rw [←z,hk] at z2;cases z2)];exact z2
 ·rw [bA M.lr] at h;split at h
  ·cases h;exact Int.le_refl _
  ·exact M.mono x q k q0 h h0
theorem xF{ks:Ks}{V:Vs}{k:List Int}{q:Int×PV}(h:ai ks V k=some q):aM (.dct ks (V.map val)) (aq k)=.ok (val q):=by
 show(Res.of (iF (aq k))).bind (fun k=>Res.of (ai ks (V.map val) k))=_
 rw [dY];show Res.of (ai ks (V.map val) k)=_
 rw [fE,h]
 rfl
theorem vv{q:Int×PV}:aM (val q) (.int 0)=.ok (.int q.1):=id rfl
theorem nD{ks:Ks}{vs:List PV}{k:List Int}:fb (aq k) (.dct ks vs)=.ok (.bl (!cJ ks k)):=by
 show(Res.of (iF (aq k))).bind (fun k=>Res.ok (PV.bl (!cJ ks k)))=_
 rw [dY]
 rfl
theorem LL{ks:Ks}{vs:List PV}:cV .len [.dct ks vs]=.ok (.int ks.length):=id rfl
noncomputable def wS:Ss:=(.cons (.set 8 (.bin .add (.sub (.sub (.tmp 2) (.var 5)) (.cst (.int 0))) (.var 7)))
 (.cons (.ite (.and (.cmp .nin (.var 6) (.tmp 2)) (.or (.cmp .nin (.var 6) (.tmp 3)) (.cmp .lt (.var 8) (.sub (.sub (.tmp 3) (.var 6)) (.cst (.int 0))))))
  (.cons (.put 3 (.var 6) (.tup (.cons (.var 8) (.cons (.var 5) .nil))))
  .nil)
  .nil)
 .nil))
noncomputable abbrev o5(gn:Str)(ix:List Nat)(cp:List PV)(z:PV)(kr:Ks)(Vr:Vs)(kw:Ks)(Vw:Vs)(s4 s5 s6 s7 s8:Ci.Slot):Sl:=[.val z,.fn gn ix cp,.own (.dct kr (Vr.map val)),.own (.dct kw (Vw.map val)),s4,s5,s6,s7,s8]
theorem ua(kw:Ks)(Vw:Vs)(v:List Int)(c:Int)(p:PV):bB kw (Vw.map val) v (.tup [.int c,p])=(bB kw Vw v (c,p)).map val:=mr val kw Vw v (c,p)
theorem HS(F:aV){gn:Str}{ix:List Nat}{cp:List PV}{z:PV}{E:List Int→List Int→Int→Prop}{O:List Int→Prop}{s:List Int}{kr:Ks}{Vr:Vs}{kw:Ks}{Vw:Vs}{X:List Int→List Int→Int→Prop}{n:Nat}{b:Int}(M:oK E O s kr Vr kw Vw X n b)(hn:n≤3000){u v:List Int}{d e:Int}{p0:PV}(hu:ai kr Vr u=some (d,p0))(hd:∀k q,ai kr Vr k=some q→q.1≤d)(he:E u v e)(h0:0<e)(hb:d+e≤b)(ho:O v)(s4 s6 s7 s8:Ci.Slot):
 ∃Cs C5 Fq EG Gf,(((Tg.two 6 7).put (tK (v,e)) (o5 gn ix cp z kr Vr kw Vw s4 (.val (aq u)) s6 s7 s8)).bind fun aE=>ah F wS aE)=.ok (.nx (o5 gn ix cp z kr Vr Cs C5 s4 (.val (aq u)) Fq EG Gf))∧oK E O s kr Vr Cs C5 (fun a b c=>X a b c∨a=u∧b=v∧c=e) (n+1) b:=by
 have e1:=xF hu
 have l:kw.length<dF:=Nat.lt_of_le_of_lt (Nat.le_trans M.cw hn) (by decide)
 have g1:=aX (vs:=Vr) v M.lr
 have g2:=aX (vs:=Vw) v M.lw
 cases hv:ai kr Vr v with
 |some q=>
  rw [hv] at g1;have xk:cJ kr v=true:=g1
  refine⟨kw,Vw,.val (aq v),.val (.int e),.val (.int (d+e)),by simp only [wS,o5,af,aa,ae,ah,aL,az,au,aS,aQ,aw,ay,ax,reduceIte,J,J2,e1,vv,nD,xk],M.keep (Nat.le_succ n) (Int.le_refl _) ?_⟩
  rintro a q' ha b c (hx|⟨rfl,rfl,rfl⟩)
  ·exact M.clo a q' ha b c hx
  ·rw [hu] at ha;cases ha;refine .inl ⟨q,hv,?_⟩;have:=hd _ q hv
   show q.1≤d+c
   omega
 |none=>
  rw [hv] at g1;have xk:cJ kr v=false:=g1
  cases hw:ai kw Vw v with
  |none=>
   rw [hw] at g2;have Ih:cJ kw v=false:=g2
   refine⟨_,_,.val (aq v),.val (.int e),.val (.int (d+e)),?_,M.put hu hd he h0 hb ho hv (fun q h=>by rw [hw] at h;cases h)⟩;simp only [wS,o5,af,aa,ae,ah,aL,az,au,aS,aQ,aw,ay,ax,reduceIte,J,J2,e1,vv,nD,xk,Ih,dY,l,ua]
  |some q=>
   rw [hw] at g2;have Ih:cJ kw v=true:=g2
   have e2:=xF hw
   by_cases cq:d+e<q.1
   ·refine⟨_,_,.val (aq v),.val (.int e),.val (.int (d+e)),?_,M.put hu hd he h0 hb ho hv (fun q' h=>by rw [hw] at h;cases h;omega)⟩;simp only [wS,o5,af,aa,ae,ah,aL,az,au,aS,aQ,aw,ay,ax,reduceIte,J,J2,e1,e2,vv,nD,xk,Ih,cq,decide_true,dY,l,ua]
   ·refine⟨kw,Vw,.val (aq v),.val (.int e),.val (.int (d+e)),by simp only [wS,o5,af,aa,ae,ah,aL,az,au,aS,aQ,aw,ay,ax,reduceIte,J,J2,e1,e2,vv,nD,xk,Ih,cq,decide_false],M.keep (Nat.le_succ n) (Int.le_refl _) ?_⟩
    rintro a q' ha b c (hx|⟨rfl,rfl,rfl⟩)
    ·exact M.clo a q' ha b c hx
    ·rw [hu] at ha;cases ha;exact .inr ⟨q,hw,by show q.1≤d+c;omega⟩
theorem CF(F:aV){gn:Str}{ix:List Nat}{cp:List PV}{z:PV}{E:List Int→List Int→Int→Prop}{O:List Int→Prop}{s:List Int}{b:Int}(hE:∀u v e,E u v e→0<e∧e≤30∧O v){kr:Ks}{Vr:Vs}{u:List Int}{d:Int}{p0:PV}(hu:ai kr Vr u=some (d,p0))(hd:∀k q,ai kr Vr k=some q→q.1≤d)(AB:d+30≤b)(s4:Ci.Slot):
 ∀(T:List (List Int×Int)) (kw:Ks) (Vw:Vs) (X:List Int→List Int→Int→Prop) (n:Nat) (s6 s7 s8:Ci.Slot),(∀t∈T,E u t.1 t.2)→oK E O s kr Vr kw Vw X n b→n+T.length≤3000→∃Cs C5 Fq EG Gf,forL (fun x env=>((Tg.two 6 7).put x env).bind fun aE=>ah F wS aE) (T.map tK) (o5 gn ix cp z kr Vr kw Vw s4 (.val (aq u)) s6 s7 s8)=.ok (.nx (o5 gn ix cp z kr Vr Cs C5 s4 (.val (aq u)) Fq EG Gf))∧oK E O s kr Vr Cs C5 (fun a b c=>X a b c∨a=u∧(b,c)∈T) (n+T.length) b
 |[],kw,Vw,X,n,s6,s7,s8,_,M,_=>⟨kw,Vw,s6,s7,s8,rfl,M.keep (Nat.le_refl _) (Int.le_refl _) (fun a q ha b c hx=>M.clo a q ha b c (hx.resolve_right fun z=>by cases z.2))⟩
 |t::T,kw,Vw,X,n,s6,s7,s8,hT,M,hn=>by
  have ht:=hT t (List.mem_cons_self ..)
  rw [List.length_cons] at hn;obtain⟨kw1,Vw1,a6,a7,a8,e1,M1⟩:=HS F (gn:=gn) (ix:=ix) (cp:=cp) (z:=z) M (by omega) hu hd ht (hE _ _ _ ht).1 (by have:=(hE _ _ _ ht).2.1;omega) (hE _ _ _ ht).2.2 s4 s6 s7 s8
  obtain⟨kw2,Vw2,b6,b7,b8,e2,M2⟩:=CF F hE hu hd AB s4 T kw1 Vw1 _ (n+1) a6 a7 a8 (fun x hx=>hT x (List.mem_cons_of_mem _ hx)) M1 (by omega)
  refine⟨kw2,Vw2,b6,b7,b8,?_,M2.keep (by rw [List.length_cons];omega) (Int.le_refl _) fun a q ha b c hx=>M2.clo a q ha b c ?_⟩
  ·rw [List.map_cons,forL,e1,uA];exact e2
  ·rcases hx with hx|⟨h1,h2⟩
   ·exact .inl (.inl hx)
   ·rcases List.mem_cons.1 h2 with h2|h2
    ·exact .inl (.inr ⟨h1,by rw [←h2],by rw [←h2]⟩)
    ·exact .inr ⟨h1,h2⟩
end K12
namespace K12
open PySem L2 Ci KJ
def zL(U kr:Ks):Nat:=(U.filter fun x=>!cJ kr x).length
theorem AY{U kr:Ks}{k:List Int}(hk:k∈U)(hn:cJ kr k=false):zL U (bE kr k)<zL U kr:=by
 have hh:∀x,cJ (bE kr k) x=(cJ kr x||decide (x=k)):=by
  intro x;rw [Bool.eq_iff_iff,Bool.or_eq_true,cC,cC,decide_eq_true_eq];unfold bE;rw [hn];simp
 unfold zL;simp only [hh]
 induction U with
 |nil=>cases hk
 |cons y U ih=>
  have mono:(U.filter fun x=>!(cJ kr x||decide (x=k))).length≤(U.filter fun x=>!cJ kr x).length:=by
   rw [←List.countP_eq_length_filter,←List.countP_eq_length_filter];refine List.countP_mono_left fun x _ h=>?_
   simp only [Bool.not_or,zza] at h;exact h.1
  rw [List.filter_cons,List.filter_cons]
  by_cases e:y=k
  ·subst e;simp only [hn,decide_true,Bool.or_true,Bool.not_true,Bool.false_eq_true,if_false,Bool.not_false,if_true,List.length_cons];omega
  ·have:=ih ((List.mem_cons.1 hk).resolve_left fun z=>e z.symm)
   simp only [e,decide_false,Bool.or_false];cases cJ kr y<;>simp only [Bool.not_true,Bool.not_false,Bool.false_eq_true,if_true,if_false,List.length_cons]<;>omega
def wC:E:=.cmp .gt (.blt .len (.cons (.tmp 3) .nil)) (.cst (.int 0))
noncomputable def wB:Ss:=(.cons (.minK 5 3)
 (.cons (.putPop 2 3 5)
 (.cons (.for_ (.two 6 7) (.seq (.callv 1 (.cons (.var 5) .nil))) wS)
 .nil)))
theorem Ay(F:aV){gn:Str}{ix:List Nat}{cp:List PV}{z:PV}{as:List Int→List PV}(CC:ix.head?=some 1)(Gn:∀u,eh (aq u::cp) ix.tail=.ok (as u)){E:List Int→List Int→Int→Prop}{O:List Int→Prop}{s:List Int}{U:Ks}(hU:∀u,O u→u∈U)(Gi:U.length≤36)(hE:∀u v e,E u v e→0<e∧e≤30∧O v)(dm:∀u,O u→∃T:List (List Int×Int),F gn (as u)=.ok (.lst (T.map tK))∧T.length≤60∧∀v e,(v,e)∈T↔E u v e)
 {kr:Ks} {Vr:Vs} {kw:Ks} {Vw:Vs} (M:oK E O s kr Vr kw Vw E (1+60*kr.length) (30*kr.length)) (hc:kr.length+zL U kr≤U.length) (jg:kw≠[]) (s4 s5 s6 s7 s8:Ci.Slot):
 ∃rW Ig Cs C5 Kx Fq EG Gf,ah F wB (o5 gn ix cp z kr Vr kw Vw s4 s5 s6 s7 s8)=.ok (.nx (o5 gn ix cp z rW Ig Cs C5 s4 Kx Fq EG Gf))∧oK E O s rW Ig Cs C5 E (1+60*rW.length) (30*rW.length)∧rW.length+zL U rW≤U.length∧zL U rW<zL U kr:=by
 obtain⟨k,q,h1,h2,h3⟩:=v8 M.lw M.nw jg
 obtain⟨M1,h4,h5⟩:=M.move h2 h3
 obtain⟨ho,_⟩:=M.ww k q h2
 have hk:cJ kr k=false:=by
  rw [aX (vs:=Vr) k M.lr];cases h:ai kr Vr k with
  |none=>rfl
  |some q'=>exact(M.dis k q' q h h2).elim
 have hl:(bE kr k).length=kr.length+1:=by unfold bE;rw [hk];simp
 have cq:=AY (hU k ho) hk
 obtain⟨T,e1,hT,hT2⟩:=dm k ho
 obtain⟨d,p0⟩:=q
 obtain⟨kw2,Vw2,b6,b7,b8,e2,M2⟩:=CF F (gn:=gn) (ix:=ix) (cp:=cp) (z:=z) (b:=30*kr.length+30) hE h4 h5 (by have:=(M.bd k (d,p0) (.inr h2)).2;show d+30≤_;omega) s4 T _ _ _ _ s6 s7 s8 (fun t ht=>(hT2 t.1 t.2).1 ht) (M1.keep (Nat.le_refl _) (by omega) M1.clo) (by omega)
 refine⟨_,_,kw2,Vw2,.val (aq k),b6,b7,b8,?_,M2.keep (by omega) (by omega) (fun a q ha b c hx=>M2.clo a q ha b c ?_),by omega,cq⟩
 ·have l:kr.length<dF∧2≠3:=⟨Nat.lt_of_le_of_lt (m:=36) (by omega) (by decide),by decide⟩
  have gm:ai kw (Vw.map val) k=some (val (d,p0)):=by rw [fE,h2];rfl
  have gp:bB kr (Vr.map val) k (val (d,p0))=(bB kr Vr k (d,p0)).map val:=mr val kr Vr k (d,p0)
  have ha:=Gn k
  simp only [wS,o5,af,aa,ae,ah,aL,az,au,aS,aQ,aw,ay,ax,reduceIte,J,J2] at e2;simp only [wB,wS,o5,af,aa,ae,ah,aL,az,au,aS,aQ,aw,ay,ax,reduceIte,J,J2,mz,h1,dY,gm,l,and_self,kK,gp,CC,ha,e1,e2,ne_eq,not_false_eq_true]
 ·by_cases e:a=k
  ·subst e;exact .inr ⟨rfl,(hT2 b c).2 hx⟩
  ·exact .inl ⟨hx,e⟩
theorem so(F:aV){gn:Str}{ix:List Nat}{cp:List PV}{z:PV}{as:List Int→List PV}(CC:ix.head?=some 1)(Gn:∀u,eh (aq u::cp) ix.tail=.ok (as u)){E:List Int→List Int→Int→Prop}{O:List Int→Prop}{s:List Int}{U:Ks}(hU:∀u,O u→u∈U)(Gi:U.length≤36)(hE:∀u v e,E u v e→0<e∧e≤30∧O v)(dm:∀u,O u→∃T:List (List Int×Int),F gn (as u)=.ok (.lst (T.map tK))∧T.length≤60∧∀v e,(v,e)∈T↔E u v e)(s4:Ci.Slot):
 ∀(n:Nat) (kr:Ks) (Vr:Vs) (kw:Ks) (Vw:Vs) (s5 s6 s7 s8:Ci.Slot),oK E O s kr Vr kw Vw E (1+60*kr.length) (30*kr.length)→kr.length+zL U kr≤U.length→zL U kr<n→∃rW Ig NY Kx Fq EG Gf,cX (az F wC) (ah F wB) n (o5 gn ix cp z kr Vr kw Vw s4 s5 s6 s7 s8)=.ok (.nx [.val z,.fn gn ix cp,.own (.dct rW (Ig.map val)),NY,s4,Kx,Fq,EG,Gf])∧rW.length≤36∧∃m,oK E O s rW Ig [] [] E m 1080
 |0,_,_,_,_,_,_,_,_,_,_,h=>absurd h (Nat.not_lt_zero _)
 |n+1,kr,Vr,kw,Vw,s5,s6,s7,s8,M,hc,hn=>by
  have ec:az F wC (o5 gn ix cp z kr Vr kw Vw s4 s5 s6 s7 s8)=.ok (.bl (decide ((0:Int)<kw.length))):=by simp only [wC,o5,af,aa,ae,ah,aL,az,au,aS,aQ,aw,ay,ax,reduceIte,J,J2,LL]
  by_cases hk:kw=[]
  ·subst hk;have hv:Vw=[]:=List.eq_nil_of_length_eq_zero M.lw.symm
   subst hv;refine⟨kr,Vr,.own (.dct [] []),s5,s6,s7,s8,?_,by omega,_,M.keep (Nat.le_refl _) (by omega) M.clo⟩;have:decide ((0:Int)<(([]:Ks).length:Nat))=false:=rfl
   rw [this] at ec;simp only [cX,ec,uA,HV,Bool.false_eq_true,if_false,o5]
   rfl
  ·obtain⟨kr1,Vr1,kw1,Vw1,t5,t6,t7,t8,e1,M1,hc1,cq⟩:=Ay F (gn:=gn) (z:=z) CC Gn hU Gi hE dm M hc hk s4 s5 s6 s7 s8
   obtain⟨kr2,Vr2,u3,u5,u6,u7,u8,e2,h2⟩:=so F (gn:=gn) (z:=z) CC Gn hU Gi hE dm s4 n kr1 Vr1 kw1 Vw1 t5 t6 t7 t8 M1 hc1 (by omega)
   refine⟨kr2,Vr2,u3,u5,u6,u7,u8,?_,h2⟩;have:decide ((0:Int)<(kw.length:Nat))=true:=by
    have:=List.length_pos_iff.2 hk
    simp;omega
   rw [this] at ec;simp only [cX,ec,uA,HV,if_true,e1,e2]
structure wj(E:List Int→List Int→Int→Prop)(s:List Int)(kr:Ks)(Vr:Vs):Prop where
 len:kr.length=Vr.length
 le:kr.length≤36
 wlk:∀k q,ai kr Vr k=some q→k.length=2∧dU E s k q.1
 clo:∀u q,ai kr Vr u=some q→∀v e,E u v e→∃q',ai kr Vr v=some q'∧q'.1≤q.1+e
 st:∃q,ai kr Vr s=some q∧q.1≤0
 pre:∀k q,ai kr Vr k=some q→(q.2=.non∧k=s∧q.1=0)∨∃y q' e,q.2=aq y∧ai kr Vr y=some q'∧E y k e∧q.1=q'.1+e
 bd:∀k q,ai kr Vr k=some q→0≤q.1∧q.1≤1080
 nr:kr.Nodup
noncomputable def CL(gn:Str)(ix:List Nat):Def:=⟨["starts","steps","reached","waiting","start","spot","other","cost","together"],2,(.cons (.dnew 2)
 (.cons (.dnew 3)
 (.cons (.for_ (.one 4) (.seq (.var 0))
  (.cons (.put 3 (.var 4) (.tup (.cons (.cst (.int 0)) (.cons (.cst .non) .nil))))
  .nil))
 (.cons (.whl (.cmp .gt (.blt .len (.cons (.tmp 3) .nil)) (.cst (.int 0)))
  (.cons (.minK 5 3)
  (.cons (.putPop 2 3 5)
  (.cons (.for_ (.two 6 7) (.seq (.callv 1 (.cons (.var 5) .nil)))
   (.cons (.set 8 (.bin .add (.sub (.sub (.tmp 2) (.var 5)) (.cst (.int 0))) (.var 7)))
   (.cons (.ite (.and (.cmp .nin (.var 6) (.tmp 2)) (.or (.cmp .nin (.var 6) (.tmp 3)) (.cmp .lt (.var 8) (.sub (.sub (.tmp 3) (.var 6)) (.cst (.int 0))))))
    (.cons (.put 3 (.var 6) (.tup (.cons (.var 8) (.cons (.var 5) .nil))))
    .nil)
    .nil)
   .nil)))
  .nil))))
 (.cons (.frz 2)
 (.cons (.ret (.var 2))
 .nil)))))),some (gn,ix)⟩
theorem lN(F:aV)(gn:Str){ix:List Nat}{cp:List PV}{as:List Int→List PV}(CC:ix.head?=some 1)(Gn:∀u,eh (aq u::cp) ix.tail=.ok (as u)){E:List Int→List Int→Int→Prop}{O:List Int→Prop}{s:List Int}{U:Ks}(hU:∀u,O u→u∈U)(Gi:U.length≤36)(h2:∀u,O u→u.length=2)(hE:∀u v e,E u v e→0<e∧e≤30∧O v)(dm:∀u,O u→∃T:List (List Int×Int),F gn (as u)=.ok (.lst (T.map tK))∧T.length≤60∧∀v e,(v,e)∈T↔E u v e)(hs:O s):
 ∃kr Vr,af F (CL gn ix) (.lst [aq s]::cp)=.ok (.dct kr (Vr.map val))∧wj E s kr Vr:=by
 have g:∀x q,ai [s] [((0:Int),PV.non)] x=some q→s=x∧q=(0,.non):=fun x q h=>by
  simp only [ai] at h;split at h
  ·rename_i z;cases h;exact⟨z,rfl⟩
  ·cases h
 have M:oK E O s [] [] [s] [(0,.non)] E (1+60*([]:Ks).length) (30*(([]:Ks).length:Nat)):=⟨rfl,rfl,by simp,(fun k q q' h=>by simp [ai] at h),(fun k q h=>by simp [ai] at h),(fun k q h=>by obtain⟨rfl,rfl⟩:=g k q h;exact⟨hs,.here⟩),(fun k q k' q' h=>by simp [ai] at h),(fun u q h=>by simp [ai] at h),.inr ⟨(0,.non),by simp [ai],Int.le_refl _⟩,by simp,(fun k q h=>h.elim (fun h=>by simp [ai] at h) fun h=>by obtain⟨z,rfl⟩:=g k q h;exact .inl ⟨rfl,z.symm,rfl⟩),(fun k q h=>h.elim (fun h=>by simp [ai] at h) fun h=>by obtain⟨_,rfl⟩:=g k q h;exact⟨Int.le_refl _,Int.le_refl _⟩),List.nodup_nil⟩
 have hl:zL U []≤U.length:=List.length_filter_le ..
 obtain⟨kr,Vr,u3,u5,u6,u7,u8,e,h3,m,M'⟩:=so F (gn:=gn) (z:=.lst [aq s]) CC Gn hU Gi hE dm (.val (aq s)) WN [] [] [s] [(0,.non)] .no .no .no .no M (by simpa using hl) (Nat.lt_of_le_of_lt (Nat.le_trans hl Gi) (by decide))
 refine⟨kr,Vr,?_,M'.lr,h3,fun k q h=>⟨h2 k (M'.wr k q h).1,(M'.wr k q h).2⟩,fun u q h v c hx=>?_,?_,?_,?_,?_⟩
 ·have l:(0:Nat)<dF:=by decide
  have p1:bE [] s=[s]:=rfl
  have p2:∀p:PV,bB ([]:Ks) [] s p=[p]:=fun p=>rfl
  have a2:List.take 1 (PV.lst [aq s]::cp)=[.lst [aq s]]:=rfl
  have a3:List.drop 1 (PV.lst [aq s]::cp)=cp:=rfl
  simp only [wC,wB,wS,o5,af,aa,ae,ah,aL,az,au,aS,aQ,aw,ay,ax,reduceIte,J,J2] at e;simp only [CL,af,aa,ae,ah,aL,az,au,aS,aQ,aw,ay,ax,reduceIte,J,J2,a2,a3,forL,dY,l,p1,p2,e,F0];exact if_pos rfl
 ·rcases M'.clo u q h v c hx with h|⟨q',h,_⟩
  ·exact h
  ·simp [ai] at h
 ·rcases M'.st with h|⟨q',h,_⟩
  ·exact h
  ·simp [ai] at h
 ·exact fun k q h=>M'.pre k q (.inl h)
 ·exact fun k q h=>M'.bd k q (.inl h)
 ·exact M'.nr
end K12
namespace K12
open PySem L2 Ci KJ
theorem zw{α:Type}(xs:List α)(x:α):pL (xs++[x]) (-1)=some x:=by
 unfold pL C3;have h1:¬(0:Int)≤ -1:=by decide
 have h2: -((xs++[x]).length:Int)≤ -1:=by simp only [List.length_append,List.length_singleton];omega
 rw [if_neg h1,if_pos h2];have h3:(-1+((xs++[x]).length:Int)).toNat=xs.length:=by simp only [List.length_append,List.length_singleton];omega
 rw [h3];simp
theorem Du{q:Int×PV}:aM (val q) (.int 1)=.ok q.2:=id rfl
def GD:E:=(.cmp .isn (.sub (.sub (.var 0) (.sub (.tmp 2) (.neg (.cst (.int 1))))) (.cst (.int 1))) (.cst .non))
def Je:Ss:=(.cons (.app 2 (.sub (.sub (.var 0) (.sub (.tmp 2) (.neg (.cst (.int 1))))) (.cst (.int 1)))) .nil)
theorem B7(xs:List PV)(x:PV):aM (.lst (xs++[x])) (.int (-1))=.ok x:=by
 simp only [aM,zw]
 rfl
inductive qK(E:List Int→List Int→Int→Prop)(s:List Int):List Int→Ks→Int→Prop
 |here:qK E s s [s] 0
 |go {u v:List Int} {l:Ks} {d e:Int}:qK E s u l d→E u v e→qK E s v (v::l) (d+e)
theorem ux(F:aV){E:List Int→List Int→Int→Prop}{s:List Int}{kr:Ks}{Vr:Vs}(R:wj E s kr Vr)(hE:∀u v e,E u v e→0<e)(z:PV):∀(n:Nat) (xs:List PV) (y:List Int) (q:Int×PV),ai kr Vr y=some q→q.1<n→(xs.length:Int)+q.1≤2000→∃l,cX (az F GD) (ah F Je) n [.val (.dct kr (Vr.map val)),.val z,.own (.lst (xs++[aq y]))]=.ok (.nx [.val (.dct kr (Vr.map val)),.val z,.own (.lst (xs++l.map aq))])∧qK E s y l q.1
 |0,xs,y,q,h,hn,_=>by have:=(R.bd y q h).1;omega
 |n+1,xs,y,q,h,hn,hl=>by
  have e1:=B7 xs (aq y)
  have e2:=xF h
  have b0:=(R.bd y q h).1
  have l:(xs++[aq y]).length<dF:=Nat.lt_of_le_of_lt (m:=3000) (by rw [List.length_append,List.length_singleton];omega) (by decide)
  rcases R.pre y q h with⟨p,rfl,h0⟩|⟨y',q',e,p,h',he,hq⟩
  ·refine⟨[y],?_,by rw [h0];exact .here⟩;have e5:e8 .non .non=.ok (.bl false):=rfl
   have ec:az F GD [.val (.dct kr (Vr.map val)),.val z,.own (.lst (xs++[aq y]))]=.ok (.bl false):=by simp only [GD,af,aa,ae,ah,aL,az,au,aS,aQ,aw,ay,ax,reduceIte,J,J2,e1,e2,Du,p,e5]
   simp only [cX,ec,uA,HV,Bool.false_eq_true,if_false]
   rfl
  ·have e5:e8 (aq y') .non=.ok (.bl true):=rfl
   have ec:az F GD [.val (.dct kr (Vr.map val)),.val z,.own (.lst (xs++[aq y]))]=.ok (.bl true):=by simp only [GD,af,aa,ae,ah,aL,az,au,aS,aQ,aw,ay,ax,reduceIte,J,J2,e1,e2,Du,p,e5]
   have eb:ah F Je [.val (.dct kr (Vr.map val)),.val z,.own (.lst (xs++[aq y]))]=.ok (.nx [.val (.dct kr (Vr.map val)),.val z,.own (.lst (xs++[aq y]++[aq y']))]):=by simp only [Je,af,aa,ae,ah,aL,az,au,aS,aQ,aw,ay,ax,reduceIte,J,J2,e1,e2,Du,p,l]
   have hp:=hE _ _ _ he
   obtain⟨l',e',t⟩:=ux F R hE z n (xs++[aq y]) y' q' h' (by omega) (by rw [List.length_append,List.length_singleton];omega)
   refine⟨y::l',?_,by rw [hq];exact .go t he⟩;simp only [cX,ec,uA,HV,if_true,eb,e'];simp
theorem uY(F:aV){E:List Int→List Int→Int→Prop}{s:List Int}{kr:Ks}{Vr:Vs}(R:wj E s kr Vr)(hE:∀u v e,E u v e→0<e){k:List Int}{q:Int×PV}(hq:ai kr Vr k=some q):∃l:Ks,af F ez [.dct kr (Vr.map val),aq k]=.ok (.lst (l.map aq))∧qK E s k l q.1:=by
 have hb:=(R.bd k q hq).2
 obtain⟨l,e,hu⟩:=ux F R hE (aq k) WN [] k q hq (Int.lt_of_le_of_lt hb (by decide)) (by simp;omega)
 refine⟨l,?_,hu⟩;simp only [GD,Je,af,aa,ae,ah,aL,az,au,aS,aQ,aw,ay,ax,reduceIte,J,J2,List.nil_append] at e;simp only [ez,af,aa,ae,ah,aL,az,au,aS,aQ,aw,ay,ax,reduceIte,J,J2,e,F0]
end K12
namespace K12
open PySem L2 Ci KJ
theorem range_getD{α:Type}(d:α)(l:List α):(List.range l.length).map (fun i=>l.getD i d)=l:=by
 refine List.ext_getElem (by simp) fun i h1 h2=>?_
 simp [List.getD_eq_getElem?_getD,zzg h2]
theorem zo(ks:Ks):∃S:Ks,m9 PV.non (ks.map aq) ks=S.map aq∧S.length=ks.length∧∀k,k∈S↔k∈ks:=by
 by_cases h:ks.length<2
 ·exact⟨ks,by unfold m9;rw [if_pos (by simpa using h)],rfl,fun k=>Iff.rfl⟩
 ·have P:=iO (n:=ks.length) (by omega) fun i j=>HT.lexLt (ks.getD i []) (ks.getD j [])
  refine⟨(nh ks.length fun i j=>HT.lexLt (ks.getD i []) (ks.getD j [])).map fun i=>ks.getD i [],?_,?_,fun k=>?_⟩
  ·unfold m9;rw [if_neg (by simpa using h),zzl,List.map_map];refine List.map_congr_left fun i hi=>?_
   have hl:i<ks.length:=List.mem_range.1 (P.mem_iff.1 hi)
   simp [List.getD_eq_getElem?_getD,zzg hl]
  ·rw [zzl,P.length_eq,List.length_range]
  ·have Q:=P.map fun i=>ks.getD i []
   rw [range_getD] at Q;exact Q.mem_iff
def cst(kr:Ks)(Vr:Vs)(k:List Int):Int:=((ai kr Vr k).map (·.1)).getD 0
theorem vP(F:aV){E:List Int→List Int→Int→Prop}{s:List Int}{kr:Ks}{Vr:Vs}(R:wj E s kr Vr):∃S:Ks,af F bX [.dct kr (Vr.map val)]=.ok (.lst (S.map fun k=>tK (k,cst kr Vr k)))∧S.length≤36∧∀k,k∈S↔k∈kr:=by
 obtain⟨S,e,hl,hm⟩:=zo kr
 refine⟨S,?_,hl▸R.le,hm⟩;have hv:∀k∈kr,∃q,ai kr Vr k=some q:=fun k hk=>Option.isSome_iff_exists.1 (by rw [←aX k R.len];exact cC.2 hk)
 have e1:cV .sorted [.dct kr (Vr.map val)]=.ok (.lst (S.map aq)):=by
  show(if(decide (kr.length<64)&&kr.all fun k=>!k.isEmpty)=true then Res.ok (PV.lst (m9 .non (kr.map aq) kr)) else .bad)=_
  rw [if_pos,e];have:=R.le
  rw [zza];refine⟨decide_eq_true (by omega),List.all_eq_true.2 fun k hk=>?_⟩
  obtain⟨q,hq⟩:=hv k hk
  have:=(R.wlk k q hq).1
  cases k with
  |nil=>cases this
  |cons a b=>rfl
 have l:S.length<dF:=by
  have:=R.le
  exact Nat.lt_of_le_of_lt (m:=36) (by omega) (by decide)
 simp only [bX,af,aa,ae,ah,aL,az,au,aS,aQ,aw,ay,ax,reduceIte,J,J2,e1,zzl,l];rw [cO (p:=aq) (g:=fun k=>tK (k,cst kr Vr k)) (fun k hk=>by
  obtain⟨q,hq⟩:=hv k ((hm k).1 hk)
  have e2:=xF hq
  simp only [af,aa,ae,ah,aL,az,au,aS,aQ,aw,ay,ax,reduceIte,J,J2,e2,vv,cst,hq,Option.map_some,Option.getD_some])]
 simp only [af,aa,ae,ah,aL,az,au,aS,aQ,aw,ay,ax,reduceIte,J,J2]
theorem ub(c:List Int→Int):∀S:Ks,lC (S.map fun k=>tK (k,c k))=some (S.map fun k=>(k,PV.int (c k)))
 |[]=>rfl
 |k::S=>by
  have:=ub c S
  simp only [List.map_cons,lC,dY,Option.bind_some,this,Option.map_some]
theorem iE{α:Type}(g:List Int→α):∀(ps:List (List Int×α)) (ks:Ks) (vs:List α),ks.length=vs.length→(∀p∈ps,p.2=g p.1)→(bF ps ks vs).1.length=(bF ps ks vs).2.length∧(bF ps ks vs).1.length≤ks.length+ps.length∧∀x,ai (bF ps ks vs).1 (bF ps ks vs).2 x=if x∈ps.map (·.1) then some (g x) else ai ks vs x
 |[],ks,vs,h,_=>⟨h,Nat.le_refl _,fun x=>by simp [bF]⟩
 |p::ps,ks,vs,h,hp=>by
  obtain⟨h1,h2,h3⟩:=iE g ps (bE ks p.1) (bB ks vs p.1 p.2) (kf h _ _) (fun q hq=>hp q (List.mem_cons_of_mem _ hq))
  have:=mq ks p.1
  refine⟨h1,?_,fun x=>?_⟩
  ·simp only [List.length_cons,bF];omega
  ·rw [bF,h3,bA h];have e:=hp p (List.mem_cons_self ..)
   by_cases hx:x∈ps.map (·.1)
   ·rw [if_pos hx,if_pos (by rw [List.map_cons];exact List.mem_cons_of_mem _ hx)]
   ·rw [if_neg hx]
    by_cases hq:p.1=x
    ·subst hq;rw [if_pos rfl,if_pos (by rw [List.map_cons];exact List.mem_cons_self ..),e]
    ·rw [if_neg hq,if_neg];rw [List.map_cons,List.mem_cons]
     rintro (z|z)
     ·exact hq z.symm
     ·exact hx z
theorem fv{α:Type}:∀(ps:List (List Int×α)) (ks:Ks) (vs:List α),ks.Nodup→(bF ps ks vs).1.Nodup
 |[],_,_,h=>h
 |p::ps,ks,vs,h=>fv ps _ _ (fI h _)
structure kU(E:List Int→List Int→Int→Prop)(s:List Int)(kd:Ks)(vd:List PV):Prop where
 len:kd.length=vd.length
 le:kd.length≤36
 wlk:∀k v,ai kd vd k=some v→∃c,v=.int c∧dU E s k c
 clo:∀u c,ai kd vd u=some (.int c)→∀v e,E u v e→∃c',ai kd vd v=some (.int c')∧c'≤c+e
 st:∃c,ai kd vd s=some (.int c)∧c≤0
 nd:kd.Nodup
theorem A2{E:List Int→List Int→Int→Prop}{s:List Int}{kr:Ks}{Vr:Vs}(R:wj E s kr Vr){S:Ks}(hS:S.length≤36)(hm:∀k,k∈S↔k∈kr):∃kd vd,cV .dict [.lst (S.map fun k=>tK (k,cst kr Vr k))]=.ok (.dct kd vd)∧kU E s kd vd:=by
 obtain⟨h1,h2,h3⟩:=iE (fun k=>PV.int (cst kr Vr k)) (S.map fun k=>(k,PV.int (cst kr Vr k))) [] [] rfl (fun p hp=>by
  obtain⟨k,_,rfl⟩:=List.mem_map.1 hp
  rfl)
 simp only [List.map_map,Function.comp_def,List.map_id',zzl,List.length_nil] at h2 h3;have hv:∀x,(∃q,ai kr Vr x=some q∧ai (bF (S.map fun k=>(k,PV.int (cst kr Vr k))) [] []).1 (bF (S.map fun k=>(k,PV.int (cst kr Vr k))) [] []).2 x=some (.int q.1))∨ai kr Vr x=none∧ai (bF (S.map fun k=>(k,PV.int (cst kr Vr k))) [] []).1 (bF (S.map fun k=>(k,PV.int (cst kr Vr k))) [] []).2 x=none:=by
  intro x;have hh:=aX (vs:=Vr) x R.len
  rw [h3];cases hx:ai kr Vr x with
  |some q=>
   rw [hx] at hh;refine .inl ⟨q,rfl,?_⟩;rw [if_pos ((hm x).2 (cC.1 hh))];simp [cst,hx]
  |none=>
   rw [hx] at hh;refine .inr ⟨rfl,?_⟩;rw [if_neg (fun z=>by rw [cC.2 ((hm x).1 z)] at hh;cases hh)]
   rfl
 refine⟨_,_,?_,h1,by omega,fun k v h=>?_,fun u c h v e hx=>?_,?_,fv _ _ _ List.nodup_nil⟩
 ·show(Res.of (lC _)).bind (fun ps=>Res.ok (PV.dct (bF ps [] []).1 (bF ps [] []).2))=_
  rw [ub (cst kr Vr)]
  rfl
 ·rcases hv k with⟨q,a,b⟩|⟨a,b⟩
  ·rw [b] at h;cases h;exact⟨q.1,rfl,(R.wlk k q a).2⟩
  ·rw [b] at h;cases h
 ·rcases hv u with⟨q,a,b⟩|⟨a,b⟩
  ·rw [b] at h;cases h;obtain⟨q',g1,g2⟩:=R.clo u q a v e hx
   rcases hv v with⟨q2,a2,b2⟩|⟨a2,b2⟩
   ·rw [a2] at g1;cases g1;exact⟨q'.1,b2,g2⟩
   ·rw [a2] at g1;cases g1
  ·rw [b] at h;cases h
 ·obtain⟨q,g1,g2⟩:=R.st
  rcases hv s with⟨q2,a2,b2⟩|⟨a2,b2⟩
  ·rw [a2] at g1;cases g1;exact⟨q.1,b2,g2⟩
  ·rw [a2] at g1;cases g1
theorem yx{E E':List Int→List Int→Int→Prop}{s:List Int}{kd:Ks}{vd:List PV}(D:kU E s kd vd)(hE:∀u v e,E' u v e→∃e',E u v e'∧e'≤e){k:List Int}{c:Int}(h:dU E' s k c):∃c',ai kd vd k=some (.int c')∧c'≤c:=by
 induction h with
 |here=>exact D.st
 |go hw he ih=>
  obtain⟨c1,a1,a2⟩:=ih
  obtain⟨e',b1,b2⟩:=hE _ _ _ he
  obtain⟨c2,d1,d2⟩:=D.clo _ _ a1 _ _ b1
  exact⟨c2,d1,by omega⟩
theorem qu{ks:Ks}{vs:List PV}{k:List Int}{v:PV}(h:ai ks vs k=some v):aM (.dct ks vs) (aq k)=.ok v:=by
 show(Res.of (iF (aq k))).bind (fun k=>Res.of (ai ks vs k))=_
 rw [dY];show Res.of (ai ks vs k)=_
 rw [h]
 rfl
theorem O6{i:Nat}{ks:Ks}{vs:List PV}:va (.var i) (.dct ks vs)=.ok (ks.map aq):=id rfl
end K12
namespace K12
open PySem L2 Ci KJ
def ye(rows:List Str)(u:List Int):Prop:=∃r c,u=[r,c]∧bt rows r c=true
def Jw:Ks:=(List.range 6).flatMap fun(r:Nat)=>(List.range 6).map fun(c:Nat)=>[(r:Int),(c:Int)]
theorem sR:Jw.length=36:=by decide
theorem LZ{rows:List Str}{w:Nat}(L:Fl rows w){u:List Int}(h:ye rows u):u∈Jw:=by
 obtain⟨r,c,rfl,h⟩:=h
 obtain⟨a,b,d,e⟩:=CI L h
 refine List.mem_flatMap.2 ⟨r.toNat,List.mem_range.2 (by omega),List.mem_map.2 ⟨c.toNat,List.mem_range.2 (by omega),?_⟩⟩;rw [Int.toNat_of_nonneg a,Int.toNat_of_nonneg d]
theorem cF{rows:List Str}{sl:Bool}{cl pr r c r' c' e:Int}:cu rows sl cl pr r c r' c'=some e↔¬far r c r' c'∧(r≠r'∧c≠c'→sl=true∧bt rows r c'=true∧bt rows r' c=true)∧bG rows r' c'-bG rows r c≤cl∧bG rows r c-bG rows r' c'≤cl∧e=(if r≠r'∧c≠c' then 3 else 2)+pr*(if bG rows r' c'-bG rows r c>0 then bG rows r' c'-bG rows r c else 0):=by
 unfold cu
 by_cases h1:far r c r' c'
 ·rw [if_pos (show(r=r'∧c=c')∨1<r-r'∨1<r'-r∨1<c-c'∨1<c'-c from h1)];exact⟨(fun z=>by cases z),fun z=>absurd h1 z.1⟩
 ·have oz:¬((r=r'∧c=c')∨1<r-r'∨1<r'-r∨1<c-c'∨1<c'-c):=h1
  rw [if_neg oz]
  by_cases h2:(r≠r'∧c≠c')∧¬(sl=true∧bt rows r c'=true∧bt rows r' c=true)
  ·rw [if_pos h2];exact⟨(fun z=>by cases z),fun z=>absurd (z.2.1 h2.1) h2.2⟩
  ·rw [if_neg h2];have qD:r≠r'∧c≠c'→sl=true∧bt rows r c'=true∧bt rows r' c=true:=fun a=>Classical.byContradiction fun b=>h2 ⟨a,b⟩
   by_cases h3:cl<bG rows r' c'-bG rows r c∨cl<bG rows r c-bG rows r' c'
   ·rw [if_pos h3];exact⟨(fun z=>by cases z),fun z=>by omega⟩
   ·rw [if_neg h3];refine⟨fun z=>⟨h1,qD,by omega,by omega,by cases z;rfl⟩,fun z=>by rw [z.2.2.2.2]⟩
theorem yq{rows:List Str}{sl:Bool}{cl pr:Int}{u v:List Int}{e:Int}(h:E1 rows sl cl pr u v e):∃e',E1 rows sl cl pr v u e':=by
 obtain⟨r,c,r',c',h1,h2,h3,h4,h5⟩:=h
 rw [cF] at h5;refine⟨_,r',c',r,c,h2,h1,h4,h3,cF.2 ⟨?_,fun z=>?_,h5.2.2.2.1,h5.2.2.1,rfl⟩⟩
 ·have:=h5.1
  unfold far at this⊢;omega
 ·obtain⟨a,b,d⟩:=h5.2.1 ⟨fun x=>z.1 x.symm,fun x=>z.2 x.symm⟩
  exact⟨a,d,b⟩
theorem o7{rows:List Str}{w:Nat}(L:Fl rows w){sl:Bool}{cl pr:Int}(V:Wk cl pr){u v:List Int}{e:Int}(h:E1 rows sl cl pr u v e):0<e∧e≤30∧ye rows v:=by
 obtain⟨r,c,r',c',h1,h2,h3,h4,h5⟩:=h
 rw [cF] at h5;obtain⟨_,_,_,_,_,l1,l2⟩:=gJ L h3
 obtain⟨_,_,_,_,_,m1,m2⟩:=gJ L h4
 have p0:=V.p0
 have p4:=V.p4
 have e5:=h5.2.2.2.2
 generalize hm:(if bG rows r' c'-bG rows r c>0 then bG rows r' c'-bG rows r c else 0)=m at e5
 have JT:0≤m∧m≤9:=by rw [←hm];split<;>omega
 generalize hf:(if r≠r'∧c≠c' then(3:Int) else 2)=f at e5
 have O7:2≤f∧f≤3:=by rw [←hf];split<;>omega
 have a1:=Int.mul_nonneg p0 JT.1
 have a2:pr*m≤3*9:=Int.mul_le_mul (by omega) JT.2 JT.1 (by omega)
 exact⟨by omega,by omega,r',c',h2,h4⟩
theorem yN{F:aV}(hs:g9 F):∀rows w,Fl rows w→∀sl cl pr,Wk cl pr→∀r c,bt rows r c=true→∃T:List (List Int×Int),F "steps_from" [fl rows,wk sl cl pr,aq [r,c]]=.ok (.lst (T.map tK))∧T.length≤9∧∀v e,(v,e)∈T↔E1 rows sl cl pr [r,c] v e:=fun rows w L sl cl pr V r c h=>
 ⟨_,hs rows w L sl cl pr V r c h,rh ..,sj h⟩
def Et(rows:List Str)(sl:Bool)(cl pr:Int)(u v:List Int)(e:Int):Prop:=E1 rows sl cl pr v u e
def pO(f:List PV→Res PV):Prop:=∀rows w,Fl rows w→∀sl cl pr,Wk cl pr→∀r c,bt rows r c=true→∃T:List (List Int×Int),f [fl rows,wk sl cl pr,aq [r,c]]=.ok (.lst (T.map tK))∧T.length≤9∧∀v e,(v,e)∈T↔Et rows sl cl pr [r,c] v e
def oh(F:aV):Prop:=pO (F "steps_to")
def CD(f:List PV→Res PV):Prop:=∀rows w,Fl rows w→∀sl cl pr,Wk cl pr→∀r c,bt rows r c=true→∃kr Vr,f [.lst [sp r c],wk sl cl pr,fl rows]=.ok (.dct kr (Vr.map val))∧wj (E1 rows sl cl pr) [r,c] kr Vr
def DU(F:aV):Prop:=CD (F "spread@steps_from")
def CK(f:List PV→Res PV):Prop:=∀rows w,Fl rows w→∀sl cl pr,Wk cl pr→∀r c,bt rows r c=true→∃kr Vr,f [.lst [sp r c],wk sl cl pr,fl rows]=.ok (.dct kr (Vr.map val))∧wj (Et rows sl cl pr) [r,c] kr Vr
def Fn(F:aV):Prop:=CK (F "spread@steps_to")
theorem rf(F:aV)(hs:g9 F)(hc:rL F):pO (af F dg):=by
 intro rows w L sl cl pr V r c h;obtain⟨T,e1,hl,hT⟩:=yN hs rows w L sl cl pr V r c h
 have key:∀t∈T,∃e,Et rows sl cl pr [r,c] t.1 e∧F "step_cost" [fl rows,wk sl cl pr,aq t.1,aq [r,c]]=.ok (.int e):=fun t ht=>by
  obtain⟨e',he⟩:=yq ((hT t.1 t.2).1 ht)
  refine⟨e',he,?_⟩;obtain⟨a,b,a',b',g1,g2,g3,g4,g5⟩:=he
  cases g2;have:=hc rows w L sl cl pr V a b r c g3 g4
  rw [g5] at this;rw [g1];exact this
 let cf:List Int→Int:=fun v=>match v with
  |[a,b]=>(cu rows sl cl pr a b r c).getD 0
  |_=>0
 have zF:∀v e,Et rows sl cl pr [r,c] v e→cf v=e:=by
  rintro v e ⟨a,b,a',b',rfl,h2,_,_,g⟩
  cases h2;show(cu rows sl cl pr a b r c).getD 0=e
  rw [g]
  rfl
 refine⟨T.map fun t=>(t.1,cf t.1),?_,by simpa using hl,fun v e=>?_⟩
 ·have l:T.length<dF:=Nat.lt_of_le_of_lt hl (by decide)
  have t0:∀t:List Int×Int,aM (tK t) (.int 0)=.ok (aq t.1):=fun t=>rfl
  simp only [dg,af,aa,ae,ah,aL,az,au,aS,aQ,aw,ay,ax,reduceIte,J,J2,e1,zzl,l];rw [cO (p:=tK) (g:=fun t=>tK (t.1,cf t.1)) (fun t ht=>by
   obtain⟨e,he,ee⟩:=key t ht
   simp only [af,aa,ae,ah,aL,az,au,aS,aQ,aw,ay,ax,reduceIte,J,J2,t0,ee,zF _ _ he])]
  simp only [af,aa,ae,ah,aL,az,au,aS,aQ,aw,ay,ax,reduceIte,J,J2,List.map_map]
  rfl
 ·rw [List.mem_map]
  constructor
  ·rintro ⟨t,ht,z⟩
   cases z;obtain⟨e,he,_⟩:=key t ht
   rw [zF _ _ he];exact he
  ·intro he;obtain⟨e',h'⟩:=yq he
   exact⟨(v,e'),(hT v e').2 h',by rw [zF _ _ he]⟩
theorem Bs(F:aV)(hs:g9 F):CD (af F bh):=fun rows w L sl cl pr V r c h=>
 lN F "steps_from" (ix:=[1,2,1,0]) (cp:=[wk sl cl pr,fl rows]) (as:=fun u=>[fl rows,wk sl cl pr,aq u]) rfl (fun _=>rfl) (E:=E1 rows sl cl pr) (O:=ye rows) (s:=[r,c]) (U:=Jw) (fun u hu=>LZ L hu) (Nat.le_of_eq sR) (fun u hu=>by obtain⟨_,_,rfl,_⟩:=hu;rfl) (fun u v e he=>o7 L V he)
  (fun u hu=>by obtain⟨a,b,rfl,ho⟩:=hu;obtain⟨T,e,hl,hT⟩:=yN hs rows w L sl cl pr V a b ho;exact⟨T,e,by omega,hT⟩) ⟨r,c,rfl,h⟩
theorem Bx(F:aV)(hs:oh F):CK (af F bz):=fun rows w L sl cl pr V r c h=>
 lN F "steps_to" (ix:=[1,2,1,0]) (cp:=[wk sl cl pr,fl rows]) (as:=fun u=>[fl rows,wk sl cl pr,aq u]) rfl (fun _=>rfl) (E:=Et rows sl cl pr) (O:=ye rows) (s:=[r,c]) (U:=Jw) (fun u hu=>LZ L hu) (Nat.le_of_eq sR) (fun u hu=>by obtain⟨_,_,rfl,_⟩:=hu;rfl) (fun u v e he=>⟨(o7 L V he).1,(o7 L V he).2.1,by obtain⟨a,b,_,_,h1,_,h3,_⟩:=he;exact⟨a,b,h1,h3⟩⟩)
  (fun u hu=>by obtain⟨a,b,rfl,ho⟩:=hu;obtain⟨T,e,hl,hT⟩:=hs rows w L sl cl pr V a b ho;exact⟨T,e,by omega,hT⟩) ⟨r,c,rfl,h⟩
def tU(f:List PV→Res PV):Prop:=∀rows w,Fl rows w→∀sl cl pr,Wk cl pr→∀r c,bt rows r c=true→∃kr Vr,f [fl rows,wk sl cl pr,sp r c]=.ok (.dct kr (Vr.map val))∧wj (E1 rows sl cl pr) [r,c] kr Vr
def xj(F:aV):Prop:=tU (F "spread_from")
theorem Ai(F:aV)(hn:j5 F)(hs:DU F):tU (af F cj):=fun rows w L sl cl pr V r c h=>by
 obtain⟨kr,Vr,e,R⟩:=hs rows w L sl cl pr V r c h
 exact⟨kr,Vr,by simp only [cj,af,aa,ae,ah,aL,az,au,aS,aQ,aw,ay,ax,reduceIte,J,J2,hn rows L.rok r c h,iI,e],R⟩
def sY(f:List PV→Res PV):Prop:=∀rows w,Fl rows w→∀sl cl pr,Wk cl pr→∀r c,bt rows r c=true→∃xs kd vd,f [fl rows,wk sl cl pr,sp r c]=.ok xs∧cV .dict [xs]=.ok (.dct kd vd)∧kU (E1 rows sl cl pr) [r,c] kd vd
def kG(F:aV):Prop:=sY (F "distances_from")
theorem zU(F:aV)(hf:xj F)(hr:∀E s kr Vr,wj E s kr Vr→∃S:Ks,F "rising_costs" [.dct kr (Vr.map val)]=.ok (.lst (S.map fun k=>tK (k,cst kr Vr k)))∧S.length≤36∧∀k,k∈S↔k∈kr):
 sY (af F bH):=by
 intro rows w L sl cl pr V r c h;obtain⟨kr,Vr,e,R⟩:=hf rows w L sl cl pr V r c h
 obtain⟨S,e2,h1,h2⟩:=hr _ _ _ _ R
 obtain⟨kd,vd,e3,D⟩:=A2 R h1 h2
 exact⟨_,kd,vd,by simp only [bH,af,aa,ae,ah,aL,az,au,aS,aQ,aw,ay,ax,reduceIte,J,J2,e,e2],e3,D⟩
theorem pH(F:aV)(hn:j5 F)(hs:Fn F){rows:List Str}{w:Nat}(L:Fl rows w){sl:Bool}{cl pr:Int}(V:Wk cl pr){r c:Int}(h:bt rows r c=true):∃kr Vr,af F cR [fl rows,wk sl cl pr,.lst [sp r c]]=.ok (.dct kr (Vr.map val))∧wj (Et rows sl cl pr) [r,c] kr Vr:=by
 obtain⟨kr,Vr,e,R⟩:=hs rows w L sl cl pr V r c h
 exact⟨kr,Vr,by simp only [cR,af,aa,ae,ah,aL,az,au,aS,aQ,aw,ay,ax,reduceIte,J,J2,forL,hn rows L.rok r c h,iI,e],R⟩
theorem dU.cons{E:List Int→List Int→Int→Prop}{s u v:List Int}{d e:Int}(h:E s u e)(k:dU E u v d):dU E s v (e+d):=by
 induction k with
 |here=>have:=dU.go (dU.here (E:=E) (s:=s)) h;rw [Int.zero_add] at this;rwa [Int.add_zero]
 |go _ he ih=>have:=ih.go he;rwa [Int.add_assoc] at this
theorem sE{E E':List Int→List Int→Int→Prop}(hE:∀u v e,E u v e→E' v u e){s u:List Int}{c:Int}(h:dU E s u c):dU E' u s c:=by
 induction h with
 |here=>exact .here
 |go _ he ih=>have:=dU.cons (hE _ _ _ he) ih;rwa [Int.add_comm] at this
theorem x9{E:List Int→List Int→Int→Prop}{s:List Int}{kr:Ks}{Vr:Vs}(R:wj E s kr Vr){k:List Int}{c:Int}(h:dU E s k c):∃q,ai kr Vr k=some q∧q.1≤c:=by
 induction h with
 |here=>exact R.st
 |go _ he ih=>
  obtain⟨q,h1,h2⟩:=ih
  obtain⟨q',h3,h4⟩:=R.clo _ q h1 _ _ he
  exact⟨q',h3,by omega⟩
theorem BS{E:List Int→List Int→Int→Prop}{s:List Int}(hE:∀u v e,E u v e→0<e){k:List Int}{l:Ks}{d:Int}(h:qK E s k l d):(l.length:Int)≤d+1:=by
 induction h with
 |here=>simp
 |go _ he ih=>have:=hE _ _ _ he;rw [List.length_cons];omega
def Nb(E:List Int→List Int→Int→Prop)(u g:List Int)(p:PV):Prop:=(p=.non∧∀c,¬dU E u g c)∨∃d l,p=.tup [.int d,.lst (l.map aq)]∧qK (fun a b e=>E b a e) g u l d∧l.length≤2000∧∀c,dU E u g c→d≤c
def p7(f:List PV→Res PV):Prop:=∀rows w,Fl rows w→∀sl cl pr,Wk cl pr→∀r c r' c',bt rows r c=true→bt rows r' c'=true→∃p,f [fl rows,wk sl cl pr,sp r c,sp r' c']=.ok p∧Nb (E1 rows sl cl pr) [r,c] [r',c'] p
def je(F:aV):Prop:=p7 (F "least_way")
theorem xa(F:aV)(hn:j5 F)(hs:∀rows w,Fl rows w→∀sl cl pr,Wk cl pr→∀r c,bt rows r c=true→∃kr Vr,F "spread_to" [fl rows,wk sl cl pr,.lst [sp r c]]=.ok (.dct kr (Vr.map val))∧wj (Et rows sl cl pr) [r,c] kr Vr)
 (ht:∀E s kr Vr,wj E s kr Vr→(∀u v e,E u v e→0<e)→∀k q,ai kr Vr k=some q→∃l:Ks,F "traced" [.dct kr (Vr.map val),aq k]=.ok (.lst (l.map aq))∧qK E s k l q.1):
 p7 (af F cE):=by
 intro rows w L sl cl pr V r c r' c' h h';obtain⟨kr,Vr,e,R⟩:=hs rows w L sl cl pr V r' c' h'
 have n1:=hn rows L.rok r c h
 have k:sp r c=aq [r,c]:=rfl
 have g1:=aX (vs:=Vr) [r,c] R.len
 cases hq:ai kr Vr [r,c] with
 |none=>
  rw [hq] at g1;have xk:cJ kr [r,c]=false:=g1
  refine⟨.non,?_,.inl ⟨rfl,fun c' hw=>?_⟩⟩
  ·rw [k] at n1⊢;simp only [cE,af,aa,ae,ah,aL,az,au,aS,aQ,aw,ay,ax,reduceIte,J,J2,n1,e,nD,xk]
  ·obtain⟨q,h1,_⟩:=x9 R (sE (E':=Et rows sl cl pr) (fun _ _ _ z=>z) hw)
   rw [hq] at h1;cases h1
 |some q=>
  rw [hq] at g1;have xk:cJ kr [r,c]=true:=g1
  obtain⟨l,e2,tr⟩:=ht _ _ _ _ R (fun u v e he=>(o7 L V he).1) [r,c] q hq
  refine⟨.tup [.int q.1,.lst (l.map aq)],?_,.inr ⟨q.1,l,rfl,tr,by have:=BS (fun u v e he=>(o7 L V he).1) tr;have:=(R.bd _ q hq).2;omega,fun c' hw=>?_⟩⟩
  ·rw [k] at n1⊢;simp only [cE,af,aa,ae,ah,aL,az,au,aS,aQ,aw,ay,ax,reduceIte,J,J2,n1,e,nD,xk,xF hq,vv,e2]
  ·obtain⟨q',h1,h2⟩:=x9 R (sE (E':=Et rows sl cl pr) (fun _ _ _ z=>z) hw)
   rw [hq] at h1;cases h1;exact h2
end K12
namespace K12
open PySem L2 Ci KJ
theorem m7{rows:List Str}{w:Nat}(L:Fl rows w){r c:Int}(h0:0≤r)(h1:r<rows.length)(h2:0≤c)(h3:c<w):∃z,aM (fl rows) (.int r)=.ok (.str z)∧∃x:Nat,aM (.str z) (.int c)=.ok (.str ⟨#[x]⟩)∧(x !=35)=bt rows r c:=by
 obtain⟨i,rfl⟩:=Int.eq_ofNat_of_zero_le h0
 obtain⟨j,rfl⟩:=Int.eq_ofNat_of_zero_le h2
 obtain⟨x,hx⟩:=Iy L (i:=i) (j:=j) (by omega) (by omega)
 obtain⟨z,_,e1,e2⟩:=zu L.rok hx
 exact⟨z,e1,x,e2,by simp [bt,wm,hx]⟩
theorem zi(x:Nat):fG (.str ⟨#[x]⟩) (.str "#")=.ok (.bl (!(x !=35))):=by
 have:(("#":Str))=⟨#[35]⟩:=by decide+kernel
 rw [this];show Res.ok (PV.bl ((⟨#[x]⟩:Str)==⟨#[35]⟩))=_
 congr 2
 rw [bne,Bool.not_not,Bool.eq_iff_iff];simp
theorem BB{t u:Bool}:(if t=true then Res.ok (PV.bl true) else Res.ok (PV.bl u))=Res.ok (PV.bl (t||u)):=by cases t<;>rfl
def Jr:Ss:=(.cons (.ret (.bin .add (.var 5) (.ite (.cmp .gt (.var 4) (.cst (.int 0))) (.bin .mul (.sub (.var 1) (.cst (.int 2))) (.var 4)) (.cst (.int 0))))) .nil)
noncomputable def Gy:Ss:=(.cons (.ite (.and (.cmp .ne (.sub (.var 2) (.cst (.int 0))) (.sub (.var 3) (.cst (.int 0)))) (.cmp .ne (.sub (.var 2) (.cst (.int 1))) (.sub (.var 3) (.cst (.int 1)))))
 (.cons (.ite (.or (.not (.sub (.var 1) (.cst (.int 0)))) (.or (.cmp .eq (.sub (.sub (.var 0) (.sub (.var 2) (.cst (.int 0)))) (.sub (.var 3) (.cst (.int 1)))) (.cst (.str "#"))) (.cmp .eq (.sub (.sub (.var 0) (.sub (.var 3) (.cst (.int 0)))) (.sub (.var 2) (.cst (.int 1)))) (.cst (.str "#")))))
  (.cons (.ret (.cst .non))
  .nil)
  .nil)
 (.cons (.set 5 (.cst (.int 3)))
 .nil))
 .nil) Jr)
noncomputable def Ju:Ss:=(.cons (.ite (.or (.cmp .gt (.var 4) (.sub (.var 1) (.cst (.int 1)))) (.cmp .gt (.bin .sub (.cst (.int 0)) (.var 4)) (.sub (.var 1) (.cst (.int 1)))))
 (.cons (.ret (.cst .non))
 .nil)
 .nil) Gy)
theorem A1:bQ.body=(.cons (.set 4 (.bin .sub (.blt .int (.cons (.sub (.sub (.var 0) (.sub (.var 3) (.cst (.int 0)))) (.sub (.var 3) (.cst (.int 1)))) .nil)) (.blt .int (.cons (.sub (.sub (.var 0) (.sub (.var 2) (.cst (.int 0)))) (.sub (.var 2) (.cst (.int 1)))) .nil)))) (.cons (.set 5 (.cst (.int 2))) Ju)):=rfl
abbrev JH(A:PV)(sl:Bool)(cl pr r c r' c' ri k:Int):Sl:=[.val A,.val (wk sl cl pr),.val (sp r c),.val (sp r' c'),.val (.int ri),.val (.int k)]
theorem wV(F:aV)(A:PV)(sl:Bool){cl pr:Int}(V:Wk cl pr)(r c r' c' ri k:Int):ah F Jr (JH A sl cl pr r c r' c' ri k)=.ok (.rt (.int (k+pr*(if ri>0 then ri else 0)))):=by
 have ms:=iL (j:=ri) V.p0 V.p4
 by_cases hp:0<ri
 ·rw [if_pos hp];simp only [Jr,af,aa,ae,ah,aL,az,au,aS,aQ,aw,ay,ax,reduceIte,J,J2,hp,decide_true,ms]
 ·rw [if_neg hp,Int.mul_zero];simp only [Jr,af,aa,ae,ah,aL,az,au,aS,aQ,aw,ay,ax,reduceIte,J,J2,hp,decide_false]
theorem EN(F:aV){rows:List Str}{w:Nat}(L:Fl rows w){sl:Bool}{cl pr:Int}(V:Wk cl pr){r c r' c':Int}(h:bt rows r c=true)(h':bt rows r' c'=true)(ri:Int):
 ah F Gy (JH (fl rows) sl cl pr r c r' c' ri 2)=.ok (.rt (if(r≠r'∧c≠c')∧¬(sl=true∧bt rows r c'=true∧bt rows r' c=true) then .non else .int ((if r≠r'∧c≠c' then 3 else 2)+pr*(if ri>0 then ri else 0)))):=by
 have i1:=iz L h
 have i2:=iz L h'
 obtain⟨z3,c1,x3,c2,c3⟩:=m7 L (r:=r) (c:=c') i1.1 i1.2.1 i2.2.2.1 i2.2.2.2
 obtain⟨z4,d1,x4,d2,d3⟩:=m7 L (r:=r') (c:=c) i2.1 i2.2.1 i1.2.2.1 i1.2.2.2
 have e3:=wV F (fl rows) sl V r c r' c' ri 3
 have e2:=wV F (fl rows) sl V r c r' c' ri 2
 by_cases n3:r≠r'∧c≠c'
 ·have zN:(!(r==r'))=true:=by simpa using n3.1
  have uf:(!(c==c'))=true:=by simpa using n3.2
  rw [if_pos n3]
  by_cases hb:sl=true∧bt rows r c'=true∧bt rows r' c=true
  ·rw [if_neg fun z=>z.2 hb]
   have hB:(!sl||(!bt rows r c'||!bt rows r' c))=false:=by rw [hb.1,hb.2.1,hb.2.2];rfl
   simp only [Gy,af,aa,ae,ah,aL,az,au,aS,aQ,aw,ay,ax,reduceIte,J,J2,c1,c2,d1,d2,zi,c3,d3,BB,zN,uf,hB,Bool.true_or,e3]
  ·rw [if_pos ⟨n3,hb⟩];have hB:(!sl||(!bt rows r c'||!bt rows r' c))=true:=by
    cases sl with
    |false=>rfl
    |true=>
     cases o1:bt rows r c' with
     |false=>rfl
     |true=>
      cases o2:bt rows r' c with
      |false=>rfl
      |true=>exact absurd ⟨rfl,o1,o2⟩ hb
   simp only [Gy,af,aa,ae,ah,aL,az,au,aS,aQ,aw,ay,ax,reduceIte,J,J2,c1,c2,d1,d2,zi,c3,d3,BB,zN,uf,hB,Bool.true_or]
 ·rw [if_neg fun z=>n3 z.1,if_neg n3]
  cases zN:(!(r==r')) with
  |false=>simp only [Gy,af,aa,ae,ah,aL,az,au,aS,aQ,aw,ay,ax,reduceIte,J,J2,zN,e2]
  |true=>
   have uf:(!(c==c'))=false:=by
    cases uf:(!(c==c')) with
    |false=>rfl
    |true=>exact absurd ⟨by simpa using zN,by simpa using uf⟩ n3
   simp only [Gy,af,aa,ae,ah,aL,az,au,aS,aQ,aw,ay,ax,reduceIte,J,J2,zN,uf,e2]
theorem qM(F:aV){rows:List Str}{w:Nat}(L:Fl rows w){sl:Bool}{cl pr:Int}(V:Wk cl pr){r c r' c':Int}(h:bt rows r c=true)(h':bt rows r' c'=true)(hf:¬far r c r' c'):
 af F bQ [fl rows,wk sl cl pr,sp r c,sp r' c']=.ok (oP (cu rows sl cl pr r c r' c')):=by
 obtain⟨z1,x1,a1,a2,a3,_⟩:=gJ L h
 obtain⟨z2,x2,b1,b2,b3,_⟩:=gJ L h'
 have q1:cu rows sl cl pr r c r' c'=_:=if_neg hf
 rw [q1];have st:aa bQ [fl rows,wk sl cl pr,sp r c,sp r' c']=[.val (fl rows),.val (wk sl cl pr),.val (sp r c),.val (sp r' c'),.no,.no]:=rfl
 have ar:ae bQ [fl rows,wk sl cl pr,sp r c,sp r' c']=true:=rfl
 have e4:=EN F L V (sl:=sl) h h' (bG rows r' c'-bG rows r c)
 have go:∀x,ah F Ju (JH (fl rows) sl cl pr r c r' c' (bG rows r' c'-bG rows r c) 2)=.ok (.rt x)→af F bQ [fl rows,wk sl cl pr,sp r c,sp r' c']=.ok x:=fun x e=>by
  unfold af;rw [ar,if_pos rfl,st,A1];simp only [ah,aL,az,au,J,J2,a1,a2,a3,b1,b2,b3,e]
 by_cases hz:cl<bG rows r' c'-bG rows r c∨cl<bG rows r c-bG rows r' c'
 ·have:(if(r≠r'∧c≠c')∧¬(sl=true∧bt rows r c'=true∧bt rows r' c=true) then none else if cl<bG rows r' c'-bG rows r c∨cl<bG rows r c-bG rows r' c' then none else some ((if r≠r'∧c≠c' then 3 else 2)+pr*(if bG rows r' c'-bG rows r c>0 then bG rows r' c'-bG rows r c else 0)))=(none:Option Int):=by
   rw [if_pos hz];split<;>rfl
  rw [this];have hb:(decide (cl<bG rows r' c'-bG rows r c)||decide (cl<0-(bG rows r' c'-bG rows r c)))=true:=by
   rw [Bool.or_eq_true,decide_eq_true_eq,decide_eq_true_eq];omega
  refine go .non ?_;simp only [Ju,af,aa,ae,ah,aL,az,au,aS,aQ,aw,ay,ax,reduceIte,J,J2,BB,hb]
 ·have hb:(decide (cl<bG rows r' c'-bG rows r c)||decide (cl<0-(bG rows r' c'-bG rows r c)))=false:=by
   rw [Bool.or_eq_false_iff,decide_eq_false_iff_not,decide_eq_false_iff_not];omega
  rw [if_neg hz];refine(go _ ((?_:_=_).trans e4)).trans ?_
  ·simp only [Ju,af,aa,ae,ah,aL,az,au,aS,aQ,aw,ay,ax,reduceIte,J,J2,BB,hb]
  ·split<;>rfl
def mf(F:aV):Prop:=∀rows w,Fl rows w→∀sl cl pr,Wk cl pr→∀r c r' c',bt rows r c=true→bt rows r' c'=true→¬far r c r' c'→F "_law_cost" [fl rows,wk sl cl pr,sp r c,sp r' c']=.ok (oP (cu rows sl cl pr r c r' c'))
noncomputable def DR(rows:List Str)(sl:Bool)(cl pr r c:Int)(i:Nat):Option (List Int×Int):=if i≠4∧bt rows (r-1+i/3) (c-1+i%3)=true then(cu rows sl cl pr r c (r-1+i/3) (c-1+i%3)).map fun v=>([r-1+(i:Int)/3,c-1+(i:Int)%3],v) else none
noncomputable def Ge(rows:List Str)(sl:Bool)(cl pr r c:Int)(i:Nat):Option PV:=if i≠4∧bt rows (r-1+i/3) (c-1+i%3)=true then(cu rows sl cl pr r c (r-1+i/3) (c-1+i%3)).map fun v=>tK ([r-1+(i:Int)/3,c-1+(i:Int)%3],v) else none
noncomputable def kC:E:=(.and (.ch .le .lt (.cst (.int 0)) (.var 5) (.blt .len (.cons (.var 0) .nil))) (.and (.ch .le .lt (.cst (.int 0)) (.var 6) (.blt .len (.cons (.sub (.var 0) (.cst (.int 0))) .nil))) (.and (.cmp .ne (.var 4) (.cst (.int 4))) (.cmp .ne (.sub (.sub (.var 0) (.var 5)) (.var 6)) (.cst (.str "#"))))))
noncomputable def kT:Ss:=(.cons (.set 7 (.call "_law_cost" (.cons (.var 0) (.cons (.var 1) (.cons (.var 2) (.cons (.tup (.cons (.var 5) (.cons (.var 6) .nil))) .nil))))))
 (.cons (.ite (.cmp .isn (.var 7) (.cst .non))
  (.cons (.app 3 (.tup (.cons (.tup (.cons (.var 5) (.cons (.var 6) .nil))) (.cons (.var 7) .nil))))
  .nil)
  .nil)
 .nil))
noncomputable def kR:Ss:=(.cons (.ite kC kT .nil) .nil)
noncomputable def qo:Ss:=(.cons (.set 5 (.bin .add (.bin .sub (.sub (.var 2) (.cst (.int 0))) (.cst (.int 1))) (.bin .fdiv (.var 4) (.cst (.int 3)))))
 (.cons (.set 6 (.bin .add (.bin .sub (.sub (.var 2) (.cst (.int 1))) (.cst (.int 1))) (.bin .mod (.var 4) (.cst (.int 3))))) kR))
theorem x5{t u:Bool}:(if t=true then Res.ok (PV.bl u) else Res.ok (PV.bl false))=Res.ok (PV.bl (t&&u)):=by cases t<;>rfl
theorem Kq{rows:List Str}{w:Nat}(L:Fl rows w):∃z,aM (fl rows) (.int 0)=.ok (.str z)∧z.length=w∧z.length≤dF:=by
 have hz:rows[0]?=some (rows[0]'L.ne):=zzg L.ne
 have hm:=List.mem_of_getElem? hz
 exact⟨_,xm (j:=0) hz,L.rect _ hm,Nat.le_trans (L.rok.2 _ hm) (by decide)⟩
theorem Hy(F:aV){rows:List Str}{w:Nat}(L:Fl rows w)(A B:PV)(i:Nat)(s3 s7:Ci.Slot)(r' c':Int):
 az F kC [.val (fl rows),.val A,.val B,s3,.val (.int i),.val (.int r'),.val (.int c'),s7]=.ok (.bl (decide (i≠4∧bt rows r' c'=true))):=by
 obtain⟨z0,f1,f2,f3⟩:=Kq L
 have JA:(z0.length:Int)=(w:Int):=by rw [f2]
 by_cases hA:0≤r'∧r'<rows.length
 ·by_cases hB:0≤c'∧c'<w
  ·obtain⟨z,g1,x,g2,g3⟩:=m7 L hA.1 hA.2 hB.1 hB.2
   have e:decide (i≠4∧bt rows r' c'=true)=((!((i:Int)==4))&&bt rows r' c'):=by
    rw [Bool.eq_iff_iff,zza,decide_eq_true_eq];simp;omega
   rw [e];simp only [kC,af,aa,ae,ah,aL,az,au,aS,aQ,aw,ay,ax,reduceIte,J,J2,hA.1,hA.2,hB.1,hB.2,f1,JA,f3,decide_true,zzl,g1,g2,g3,rQ,x5,Bool.true_and]
  ·have e:decide (i≠4∧bt rows r' c'=true)=false:=decide_eq_false fun z=>hB (iz L z.2).2.2
   have q:(decide (0≤c')&&decide (c'<(w:Int)))=false:=by
    rw [←Bool.decide_and];exact decide_eq_false hB
   rw [e];simp only [kC,af,aa,ae,ah,aL,az,au,aS,aQ,aw,ay,ax,reduceIte,J,J2,hA.1,hA.2,f1,JA,f3,decide_true,zzl,x5,q,Bool.true_and,Bool.false_and]
 ·have e:decide (i≠4∧bt rows r' c'=true)=false:=decide_eq_false fun z=>hA ⟨(iz L z.2).1,(iz L z.2).2.1⟩
  have q:(decide (0≤r')&&decide (r'<(rows.length:Int)))=false:=by
   rw [←Bool.decide_and];exact decide_eq_false hA
  rw [e];simp only [kC,af,aa,ae,ah,aL,az,au,aS,aQ,aw,ay,ax,reduceIte,J,J2,zzl,x5,q,Bool.true_and,Bool.false_and]
theorem yc(F:aV)(hc:mf F){rows:List Str}{w:Nat}(L:Fl rows w){sl:Bool}{cl pr:Int}(V:Wk cl pr){r c:Int}(h:bt rows r c=true)(i:Nat)(hi:i<9)(acc:List PV)(hT:acc.length≤100)(t4 t5 t6 t7:Ci.Slot):
 ∃(u:Ci.Slot),(((Tg.one 4).put (.int i) [.val (fl rows),.val (wk sl cl pr),.val (sp r c),.own (.lst acc),t4,t5,t6,t7]).bind fun aE=>ah F qo aE)=
  .ok (.nx [.val (fl rows),.val (wk sl cl pr),.val (sp r c),.own (.lst (acc++(Ge rows sl cl pr r c i).toList)),.val (.int i),.val (.int (r-1+i/3)),.val (.int (c-1+i%3)),u]):=by
 have q3:(0:Int)<3:=by decide
 have q4:(0:Int)<3∧(3:Int)<1073741824:=by decide
 have OR:acc.length<dF:=Nat.lt_of_le_of_lt hT (by decide)
 have kc:=Hy F L (wk sl cl pr) (sp r c) i (.own (.lst acc)) t7 (r-1+(i:Int)/3) (c-1+(i:Int)%3)
 have go:∀x,ah F kR [.val (fl rows),.val (wk sl cl pr),.val (sp r c),.own (.lst acc),.val (.int i),.val (.int (r-1+i/3)),.val (.int (c-1+i%3)),t7]=x→(((Tg.one 4).put (.int i) [.val (fl rows),.val (wk sl cl pr),.val (sp r c),.own (.lst acc),t4,t5,t6,t7]).bind fun aE=>ah F qo aE)=x:=fun x e=>by
  simp only [qo,af,aa,ae,ah,aL,az,au,aS,aQ,aw,ay,ax,reduceIte,J,J2,q3,q4,and_self,e]
 unfold Ge
 by_cases hq:i≠4∧bt rows (r-1+i/3) (c-1+i%3)=true
 ·rw [if_pos hq];rw [decide_eq_true hq] at kc;have nf:¬far r c (r-1+i/3) (c-1+i%3):=by unfold far;omega
  have e:=hc rows w L sl cl pr V r c _ _ h hq.2 nf
  cases hs:cu rows sl cl pr r c (r-1+i/3) (c-1+i%3) with
  |none=>
   rw [hs] at e;simp only [oP] at e;have e5:e8 .non .non=.ok (.bl false):=rfl
   refine⟨.val .non,go _ ?_⟩;rw [kR,ah,aL,kc];simp only [kT,af,aa,ae,ah,aL,az,au,aS,aQ,aw,ay,ax,reduceIte,J,J2,e,e5,Option.map_none,Option.toList_none,List.append_nil]
  |some v=>
   rw [hs] at e;simp only [oP] at e;have e5:e8 (.int v) .non=.ok (.bl true):=rfl
   refine⟨.val (.int v),go _ ?_⟩;rw [kR,ah,aL,kc];simp only [kT,af,aa,ae,ah,aL,az,au,aS,aQ,aw,ay,ax,reduceIte,J,J2,e,e5,OR,Option.map_some,Option.toList_some]
   rfl
 ·rw [if_neg hq];rw [decide_eq_false hq] at kc;refine⟨t7,go _ ?_⟩;rw [kR,ah,aL,kc];simp only [af,aa,ae,ah,aL,az,au,aS,aQ,aw,ay,ax,reduceIte,J,J2,Option.toList_none,List.append_nil]
theorem EF(rows:List Str)(sl:Bool)(cl pr r c:Int)(i:Nat):Ge rows sl cl pr r c i=(DR rows sl cl pr r c i).map tK:=by
 unfold Ge DR;split
 ·rw [Option.map_map];rfl
 ·rfl
theorem tj{α β:Type}(f:α→Option β):∀l:List α,(l.flatMap fun a=>(f a).toList)=l.filterMap f
 |[]=>rfl
 |a::l=>by
  rw [List.flatMap_cons,tj f l,List.filterMap_cons];cases f a<;>rfl
def lI(f:List PV→Res PV):Prop:=∀rows w,Fl rows w→∀sl cl pr,Wk cl pr→∀r c,bt rows r c=true→∃T:List (List Int×Int),f [fl rows,wk sl cl pr,aq [r,c]]=.ok (.lst (T.map tK))∧T.length≤9∧(T.Pairwise fun a b=>a.1≠b.1)∧∀v e,(v,e)∈T↔E1 rows sl cl pr [r,c] v e
def g7(F:aV):Prop:=lI (F "_law_steps")
theorem uL(F:aV)(hc:mf F):lI (af F bO):=by
 intro rows w L sl cl pr V r c h;refine⟨(List.range 9).filterMap (DR rows sl cl pr r c),?_,Nat.le_trans (List.length_filterMap_le _ _) (by simp),?_,fun v e=>?_⟩
 ·obtain⟨s',e⟩:=fq (body:=fun x env=>((Tg.one 4).put x env).bind fun aE=>ah F qo aE) (g:=fun i:Nat=>PV.int (i:Int)) (mk:=fun acc (s:Ci.Slot×Ci.Slot×Ci.Slot×Ci.Slot)=>[.val (fl rows),.val (wk sl cl pr),.val (sp r c),.own (.lst acc),s.1,s.2.1,s.2.2.1,s.2.2.2]) (app:=fun i=>(Ge rows sl cl pr r c i).toList) (m:=1) (M:=50) (List.range 9) [] (.no,.no,.no,.no) (fun i _=>by cases Ge rows sl cl pr r c i<;>simp) (fun i hi acc s hl=>by
   obtain⟨u,e⟩:=yc F hc L V h i (List.mem_range.1 hi) acc (by omega) s.1 s.2.1 s.2.2.1 s.2.2.2
   exact⟨(_,_,_,u),e⟩) (by decide)
  have k:aq [r,c]=sp r c:=rfl
  have s:aP 9=true:=by decide
  have rg:dw 0 (9:Int).toNat=(List.range 9).map fun i:Nat=>PV.int (i:Int):=by
   unfold dw;refine List.map_congr_left fun i _=>?_
   rw [Int.zero_add]
  have fm:((List.range 9).flatMap fun i=>(Ge rows sl cl pr r c i).toList)=((List.range 9).filterMap (DR rows sl cl pr r c)).map tK:=by
   rw [tj,List.map_filterMap]
   congr 1
   funext i
   exact EF ..
  rw [fm,←rg] at e;have db:bO.body=.cons (.own 3 (.lst .nil)) (.cons (.for_ (.one 4) (.rng (.cst (.int 9))) qo) (.cons (.frz 3) (.cons (.ret (.var 3)) .nil))):=rfl
  have st:aa bO [fl rows,wk sl cl pr,sp r c]=[.val (fl rows),.val (wk sl cl pr),.val (sp r c),.no,.no,.no,.no,.no]:=rfl
  have ar:ae bO [fl rows,wk sl cl pr,sp r c]=true:=rfl
  rw [k];unfold af;rw [ar,if_pos rfl,st,db];simp only [af,aa,ae,ah,aL,az,au,aS,aQ,aw,ay,ax,reduceIte,J,J2,s] at e⊢;simp only [af,aa,ae,ah,aL,az,au,aS,aQ,aw,ay,ax,reduceIte,J,J2,e,F0]
 ·refine List.Pairwise.filterMap (S:=fun a b:List Int×Int=>a.1≠b.1) (R:=fun i j:Nat=>i≠j) _ (fun i j LP a ha b hb Gu=>LP ?_) (List.nodup_range (n:=9));unfold DR at ha hb;split at ha
  ·split at hb
   ·obtain⟨_,_,rfl⟩:=Option.map_eq_some_iff.1 ha
    obtain⟨_,_,rfl⟩:=Option.map_eq_some_iff.1 hb
    simp only [List.cons.injEq,and_true] at Gu;omega
   ·cases hb
  ·cases ha
 ·rw [List.mem_filterMap]
  constructor
  ·rintro ⟨i,hi,g⟩
   unfold DR at g;split at g
   ·rename_i hh;obtain⟨x,hx,g⟩:=Option.map_eq_some_iff.1 g
    cases g;exact⟨r,c,_,_,rfl,rfl,h,hh.2,hx⟩
   ·cases g
  ·rintro ⟨a,b,r',c',g1,rfl,_,ho,hs⟩
   cases g1;have nf:=(cF.1 hs).1
   unfold far at nf;refine⟨(3*(r'-r+1)+(c'-c+1)).toNat,List.mem_range.2 (by omega),?_⟩;have e1:r-1+((3*(r'-r+1)+(c'-c+1)).toNat:Int)/3=r':=by omega
   have e2:c-1+((3*(r'-r+1)+(c'-c+1)).toNat:Int)%3=c':=by omega
   unfold DR;rw [e1,e2,if_pos ⟨by omega,ho⟩,hs]
   rfl
end K12
namespace K12
open PySem L2 Ci KJ
def cz(rows:List Str)(r c:Int):Option Nat:=if 0≤r∧0≤c then cd rows r.toNat c.toNat else none
theorem wK{rows:List Str}{r c:Int}:bt rows r c=match cz rows r c with|some x=>x !=35|none=>false:=by
 unfold cz bt wm
 by_cases h0:0≤r
 ·by_cases h1:0≤c
  ·rw [decide_eq_true h0,decide_eq_true h1,if_pos ⟨h0,h1⟩]
   rfl
  ·rw [decide_eq_false h1,if_neg fun z=>h1 z.2,Bool.and_false]
   rfl
 ·rw [decide_eq_false h0,if_neg fun z=>h0 z.1]
  rfl
theorem xO{rows:List Str}{r c:Int}(h:bt rows r c=true):bG rows r c=match cz rows r c with|some x=>(x:Int)-48|none=>0:=by
 obtain⟨a,b,_⟩:=jd.1 h
 unfold cz;rw [if_pos ⟨a,b⟩]
 rfl
def gT(y H W r c:Int):Int×Int:=if y=0 then(r,W-1-c) else if y=1 then(H-1-r,c) else(c,r)
noncomputable def gL(y H W:Int):List Int→List Int
 |[r,c]=>[(gT y H W r c).1,(gT y H W r c).2]
 |l=>l
structure Tw(y H W:Int)(rows bb:List Str):Prop where
 pt:∀r c,cz bb (gT y H W r c).1 (gT y H W r c).2=cz rows r c
theorem CZ(y H W r c:Int):gT y H W (gT y H W r c).1 (gT y H W r c).2=(r,c):=by
 unfold gT
 by_cases h0:y=0
 ·simp only [h0,if_true,Prod.mk.injEq,true_and];omega
 ·by_cases h1:y=1
  ·simp only [h1,if_true,show((1:Int)=0)=False by decide,if_false,Prod.mk.injEq,and_true];omega
  ·simp only [h0,h1,if_false]
theorem Tw.symm{y H W:Int}{rows bb:List Str}(T:Tw y H W rows bb):Tw y H W bb rows:=⟨fun r c=>by
 have:=T.pt (gT y H W r c).1 (gT y H W r c).2
 rw [CZ] at this;exact this.symm⟩
theorem Tw.op{y H W:Int}{rows bb:List Str}(T:Tw y H W rows bb)(r c:Int):bt bb (gT y H W r c).1 (gT y H W r c).2=bt rows r c:=by
 rw [wK,wK,T.pt]
theorem Tw.hg{y H W:Int}{rows bb:List Str}(T:Tw y H W rows bb){r c:Int}(h:bt rows r c=true):bG bb (gT y H W r c).1 (gT y H W r c).2=bG rows r c:=by
 rw [xO h,xO (by rw [T.op];exact h),T.pt]
theorem Tw.e{y H W:Int}{rows bb:List Str}(T:Tw y H W rows bb){sl:Bool}{cl pr:Int}{u v:List Int}{e:Int}(h:E1 rows sl cl pr u v e):E1 bb sl cl pr (gL y H W u) (gL y H W v) e:=by
 obtain⟨r,c,r',c',rfl,rfl,h3,h4,h5⟩:=h
 rw [cF] at h5;obtain⟨a1,a2,a3,a4,a5⟩:=h5
 refine⟨_,_,_,_,rfl,rfl,by rw [T.op];exact h3,by rw [T.op];exact h4,?_⟩;have hd:((gT y H W r c).1≠(gT y H W r' c').1∧(gT y H W r c).2≠(gT y H W r' c').2)↔(r≠r'∧c≠c'):=by
  unfold gT;split
  ·simp only [];omega
  ·split
   ·simp only [];omega
   ·exact And.comm
 rw [cF,T.hg h3,T.hg h4];refine⟨?_,fun z=>?_,a3,a4,?_⟩
 ·unfold far at a1⊢;unfold gT;split
  ·simp only [];omega
  ·split
   ·simp only [];omega
   ·simp only [];omega
 ·obtain⟨b1,b2,b3⟩:=a2 (hd.1 z)
  rw [←T.op] at b2 b3;refine⟨b1,?_⟩
  clear z hd a5
  unfold gT at b2 b3⊢;split at b2
  ·rename_i q;simp only [q,if_true] at b3⊢;exact⟨b2,b3⟩
  ·rename_i q;split at b2
   ·rename_i q1;simp only [q1,if_true,show((1:Int)=0)=False by decide,if_false] at b3⊢;exact⟨b2,b3⟩
   ·rename_i q1;simp only [q,q1,if_false] at b3⊢;exact⟨b3,b2⟩
 ·rw [a5]
  by_cases hq:r≠r'∧c≠c'
  ·rw [if_pos hq,if_pos (hd.2 hq)]
  ·rw [if_neg hq,if_neg fun z=>hq (hd.1 z)]
theorem Tw.wlk{y H W:Int}{rows bb:List Str}(T:Tw y H W rows bb){sl:Bool}{cl pr:Int}{u v:List Int}{c:Int}(h:dU (E1 rows sl cl pr) u v c):dU (E1 bb sl cl pr) (gL y H W u) (gL y H W v) c:=by
 induction h with
 |here=>exact .here
 |go _ he ih=>exact .go ih (T.e he)
theorem kh(y H W r c:Int):gL y H W (gL y H W [r,c])=[r,c]:=by
 show [(gT y H W (gT y H W r c).1 (gT y H W r c).2).1,(gT y H W (gT y H W r c).1 (gT y H W r c).2).2]=_
 rw [CZ]
theorem qS{rows:List Str}{sl:Bool}{cl pr:Int}{u v:List Int}{c:Int}(hu:ye rows u)(h:dU (E1 rows sl cl pr) u v c):ye rows v:=by
 cases h with
 |here=>exact hu
 |go _ he=>obtain⟨_,_,r',c',_,h2,_,h4,_⟩:=he;exact⟨r',c',h2,h4⟩
theorem kU.low{E:List Int→List Int→Int→Prop}{s:List Int}{kd:Ks}{vd:List PV}(D:kU E s kd vd){k:List Int}{c:Int}(h:dU E s k c):∃c',ai kd vd k=some (.int c')∧c'≤c:=yx D (fun u v e h=>⟨e,h,Int.le_refl _⟩) h
theorem kU.iff{E:List Int→List Int→Int→Prop}{s:List Int}{kd:Ks}{vd:List PV}(D:kU E s kd vd){k:List Int}{v:PV}:ai kd vd k=some v↔∃c,v=.int c∧dU E s k c∧∀c',dU E s k c'→c≤c':=by
 constructor
 ·intro h;obtain⟨c,rfl,hw⟩:=D.wlk k v h
  refine⟨c,rfl,hw,fun c' h'=>?_⟩
  obtain⟨c2,h2,l⟩:=D.low h'
  rw [h] at h2;cases h2;exact l
 ·rintro ⟨c,rfl,hw,hl⟩
  obtain⟨c2,h2,l⟩:=D.low hw
  obtain⟨c3,e3,w3⟩:=D.wlk k _ h2
  cases e3;have:=hl _ w3
  rw [h2,Int.le_antisymm l this]
theorem yC{y H W:Int}{rows bb:List Str}(T:Tw y H W rows bb){sl:Bool}{cl pr r0 c0:Int}{kd CG:Ks}{vd CB:List PV}(D:kU (E1 rows sl cl pr) [r0,c0] kd vd)(D':kU (E1 bb sl cl pr) (gL y H W [r0,c0]) CG CB)(r c:Int):ai CG CB (gL y H W [r,c])=ai kd vd [r,c]:=by
 apply Option.ext
 intro v;have key:∀c2,dU (E1 bb sl cl pr) (gL y H W [r0,c0]) (gL y H W [r,c]) c2↔dU (E1 rows sl cl pr) [r0,c0] [r,c] c2:=fun c2=>⟨fun h=>by
  have:=T.symm.wlk h
  rwa [kh,kh] at this,T.wlk⟩
 rw [D.iff,D'.iff];simp only [key]
theorem qy{ks:Ks}{vs:List PV}(hl:ks.length=vs.length)(nd:ks.Nodup)(h:∀k v,ai ks vs k=some v→∃c,v=.int c):∃ns:List Int,vs=ns.map PV.int:=by
 have hv:∀v∈vs,∃c,v=PV.int c:=fun v hv=>by
  obtain⟨i,hi,rfl⟩:=List.getElem_of_mem hv
  exact h ks[i] _ (f6 nd (zzg (by omega)) (zzg hi))
 clear h hl
 induction vs with
 |nil=>exact⟨[],rfl⟩
 |cons v vs ih=>
  obtain⟨ns,rfl⟩:=ih fun v h=>hv v (List.mem_cons_of_mem _ h)
  obtain⟨c,rfl⟩:=hv v (List.mem_cons_self ..)
  exact⟨c::ns,rfl⟩
theorem tZ{jb:Ks}{wA:List Int}:∀(ks:Ks) (ns:List Int),ks.Nodup→ks.length=ns.length→(∀k n,ai ks ns k=some n→ai jb wA k=some n)→oo jb wA ks ns=true
 |[],ns,_,_,_=>by unfold oo;rfl
 |k::ks,[],_,h,_=>by simp at h
 |k::ks,n::ns,nd,hl,h=>by
  have C2:=List.nodup_cons.1 nd
  have h1:=h k n (f6 (i:=0) nd rfl rfl)
  have ih:=tZ ks ns C2.2 (by simpa using hl) fun k2 n2 h2=>h k2 n2 (by
   have hm:k2∈ks:=by
    rw [←cC,aX (vs:=ns) _ (by simpa using hl),h2]
    rfl
   obtain⟨i,hi,rfl⟩:=List.getElem_of_mem hm
   have M3:i<ns.length:=by simp at hl;omega
   have g:=f6 C2.2 (zzg hi) (zzg M3)
   rw [h2] at g;cases g;exact f6 (i:=i+1) nd (zzg hi) (zzg M3))
  unfold oo;rw [h1];simp only [ih,BEq.rfl,Bool.and_self]
theorem zr{ks jb:Ks}{vs BO:List PV}(l:ks.length=vs.length)(l':jb.length=BO.length)(nd:ks.Nodup)(C2:jb.Nodup)(h:∀k,ai ks vs k=ai jb BO k)(hi:∀k v,ai ks vs k=some v→∃c,v=.int c):iS (.dct ks vs) (.dct jb BO)=.ok (.bl false):=by
 obtain⟨ns,rfl⟩:=qy l nd hi
 obtain⟨ms,rfl⟩:=qy l' C2 fun k v e=>hi k v ((h k).trans e)
 have hlen:ks.length=jb.length:=by
  refine((List.perm_ext_iff_of_nodup nd C2).2 fun k=>?_).length_eq
  rw [←cC,←cC,aX k l,aX k l',h]
 have hh:oo jb ms ks ns=true:=tZ ks ns nd (by simpa using l) fun k n e=>by
  have:=h k
  rw [fE,fE,e] at this;cases hm:ai jb ms k with
  |none=>rw [hm] at this;cases this
  |some m=>rw [hm] at this;cases this;rfl
 show(Res.of (intsOf _)).bind _=_
 rw [eR];show(Res.of (intsOf _)).bind _=_
 rw [eR];show Res.ok (PV.bl (!(ks.length==jb.length&&oo jb ms ks ns)))=_
 rw [hh,hlen,BEq.rfl]
 rfl
theorem pz{α:Type}(f:α→List Int)(v:α→PV):∀S:List α,lC (S.map fun k=>.tup [aq (f k),v k])=some (S.map fun k=>(f k,v k))
 |[]=>rfl
 |k::S=>by
  have:=pz f v S
  simp only [List.map_cons,lC,dY,Option.bind_some,this,Option.map_some]
theorem yM{y H W:Int}{rows bb:List Str}(T:Tw y H W rows bb){sl:Bool}{cl pr r0 c0:Int}(h0:bt rows r0 c0=true){kd CG:Ks}{vd CB:List PV}(D:kU (E1 rows sl cl pr) [r0,c0] kd vd)(D':kU (E1 bb sl cl pr) (gL y H W [r0,c0]) CG CB):∃kx vx,cV .dict [.lst (kd.map fun k=>.tup [aq (gL y H W k),(ai kd vd k).getD .non])]=.ok (.dct kx vx)∧iS (.dct CG CB) (.dct kx vx)=.ok (.bl false):=by
 have NQ:∀k v,ai kd vd k=some v→ye rows k:=fun k v h=>by
  obtain⟨c,_,hw⟩:=D.wlk k v h
  exact qS ⟨r0,c0,rfl,h0⟩ hw
 have LB:∀k v,ai CG CB k=some v→∃r c,k=[r,c]:=fun k v h=>by
  obtain⟨c,_,hw⟩:=D'.wlk k v h
  obtain⟨r,c,e,_⟩:=qS (rows:=bb) ⟨_,_,rfl,by rw [T.op];exact h0⟩ hw
  exact⟨r,c,e⟩
 have DT:∀k,k∈kd↔∃v,ai kd vd k=some v:=fun k=>by
  rw [←cC,aX k D.len,Option.isSome_iff_exists]
 have h2:∀k∈kd,∃r c,k=[r,c]:=fun k hk=>by
  obtain⟨v,hv⟩:=(DT k).1 hk
  obtain⟨r,c,e,_⟩:=NQ k v hv
  exact⟨r,c,e⟩
 obtain⟨m1,_,m3⟩:=iE (fun x=>(ai kd vd (gL y H W x)).getD .non) (kd.map fun k=>(gL y H W k,(ai kd vd k).getD .non)) [] [] rfl (fun p hp=>by
  obtain⟨k,hk,rfl⟩:=List.mem_map.1 hp
  obtain⟨r,c,rfl⟩:=h2 k hk
  simp only [kh])
 refine⟨_,_,?_,zr D'.len m1 D'.nd (fv _ _ _ List.nodup_nil) (fun k=>?_) fun k v h=>(D'.wlk k v h).imp fun c hc=>hc.1⟩
 ·show(Res.of (lC _)).bind (fun ps=>Res.ok (PV.dct (bF ps [] []).1 (bF ps [] []).2))=_
  rw [pz (gL y H W) (fun k=>(ai kd vd k).getD .non)]
  rfl
 ·rw [m3]
  by_cases hk:k∈List.map (fun x=>x.1) (kd.map fun k=>(gL y H W k,(ai kd vd k).getD .non))
  ·rw [if_pos hk];obtain⟨p,hp,rfl⟩:=List.mem_map.1 hk
   obtain⟨k,hk2,rfl⟩:=List.mem_map.1 hp
   obtain⟨v,hv⟩:=(DT k).1 hk2
   obtain⟨r,c,rfl⟩:=h2 k hk2
   rw [kh,yC T D D',hv]
   rfl
  ·rw [if_neg hk];show ai CG CB k=none
   cases hv:ai CG CB k with
   |none=>rfl
   |some v=>
    obtain⟨r,c,rfl⟩:=LB k v hv
    refine absurd ?_ hk;have e:=yC T D D' (gT y H W r c).1 (gT y H W r c).2
    have q:gL y H W [(gT y H W r c).1,(gT y H W r c).2]=[r,c]:=kh y H W r c
    rw [q,hv] at e;refine List.mem_map.2 ⟨_,List.mem_map.2 ⟨_,(DT _).2 ⟨v,e.symm⟩,rfl⟩,q⟩
end K12
namespace K12
open PySem L2 Ci KJ
theorem FD{rows:List Str}(i j:Nat):cz rows i j=cd rows i j:=by
 unfold cz;rw [if_pos ⟨Int.natCast_nonneg _,Int.natCast_nonneg _⟩]
 rfl
theorem xB{rows:List Str}{w:Nat}(L:Fl rows w){r c:Int}(h:¬(0≤r∧r<rows.length∧0≤c∧c<w)):cz rows r c=none:=by
 unfold cz
 by_cases h0:0≤r∧0≤c
 ·rw [if_pos h0];unfold cd;cases hz:rows[r.toNat]? with
  |none=>rfl
  |some z=>
   have h1:=(List.getElem?_eq_some_iff.1 hz).1
   have hl:=L.rect _ (List.mem_of_getElem? hz)
   show z.cps.toList[c.toNat]?=none
   rw [List.getElem?_eq_none_iff,Array.length_toList];have:z.cps.size=w:=hl
   omega
 ·rw [if_neg h0]
theorem wZ{y:Int}{rows bb:List Str}{w w':Nat}(L:Fl rows w)(L':Fl bb w')(hb:∀r c:Int,(0≤r∧r<rows.length∧0≤c∧c<w)↔(0≤(gT y rows.length w r c).1∧(gT y rows.length w r c).1<bb.length∧0≤(gT y rows.length w r c).2∧(gT y rows.length w r c).2<w'))(hi:∀i j:Nat,i<rows.length→j<w→cd bb (gT y rows.length w i j).1.toNat (gT y rows.length w i j).2.toNat=cd rows i j):Tw y rows.length w rows bb:=⟨fun r c=>by
 by_cases h:0≤r∧r<rows.length∧0≤c∧c<w
 ·have h':=(hb r c).1 h
  obtain⟨i,rfl⟩:=Int.eq_ofNat_of_zero_le h.1
  obtain⟨j,rfl⟩:=Int.eq_ofNat_of_zero_le h.2.2.1
  rw [FD,←hi i j (by omega) (by omega)];unfold cz;rw [if_pos ⟨h'.1,h'.2.2.1⟩]
 ·rw [xB L h,xB L' fun z=>h ((hb r c).2 z)]⟩
theorem qq(z:Str):(eT z).length=z.length:=by simp [eT,Str.length]
theorem yz{rows:List Str}{w:Nat}(L:Fl rows w):Fl rows.reverse w:=⟨⟨by rw [List.length_reverse];exact L.rok.1,fun z hz=>L.rok.2 z (List.mem_reverse.1 hz)⟩,by rw [List.length_reverse];exact L.ne,L.w1,fun z hz=>L.rect z (List.mem_reverse.1 hz),fun z hz=>L.dig z (List.mem_reverse.1 hz)⟩
theorem xX{rows:List Str}{w:Nat}(L:Fl rows w):Fl (rows.map eT) w:=by
 refine⟨⟨by rw [zzl];exact L.rok.1,fun z hz=>?_⟩,by rw [zzl];exact L.ne,L.w1,fun z hz=>?_,fun z hz x hx=>?_⟩<;>obtain⟨y,hy,rfl⟩:=List.mem_map.1 hz
 ·rw [qq];exact L.rok.2 y hy
 ·rw [qq];exact L.rect y hy
 ·refine L.dig y hy x ?_
  simpa [eT] using hx
theorem OO{rows:List Str}{w:Nat}(L:Fl rows w):Tw 1 rows.length w rows rows.reverse:=by
 refine wZ L (yz L) (fun r c=>?_) fun i j hi hj=>?_
 ·simp only [gT,show((1:Int)=0)=False by decide,if_false,if_true,List.length_reverse];omega
 ·simp only [gT,show((1:Int)=0)=False by decide,if_false,if_true,Int.toNat_natCast];unfold cd;have:((rows.length:Int)-1-i).toNat=rows.length-1-i:=by omega
  rw [this,List.getElem?_reverse (by omega)]
  congr 2
  omega
theorem O3{rows:List Str}{w:Nat}(L:Fl rows w):Tw 0 rows.length w rows (rows.map eT):=by
 refine wZ L (xX L) (fun r c=>?_) fun i j hi hj=>?_
 ·simp only [gT,if_true,zzl];omega
 ·simp only [gT,if_true,Int.toNat_natCast];unfold cd;rw [List.getElem?_map];cases hz:rows[i]? with
  |none=>rfl
  |some z=>
   have hl:z.cps.size=w:=L.rect _ (List.mem_of_getElem? hz)
   have:((w:Int)-1-j).toNat=w-1-j:=by omega
   show(eT z).cps.toList[_]?=z.cps.toList[j]?
   rw [this];show z.cps.toList.reverse[_]?=_
   rw [List.getElem?_reverse (by rw [Array.length_toList];omega),Array.length_toList]
   congr 1
   omega
def j7(rows:List Str)(j:Nat):List Nat:=rows.map fun z=>(z.cps.toList[j]?).getD 0
def iR(rows:List Str)(w:Nat):List Str:=(List.range w).map fun j=>⟨(j7 rows j).toArray⟩
theorem pF:∀(xs:List Nat) (acc:Array Nat),(xs.map fun x=>(⟨#[x]⟩:Str)).foldl (fun acc p=>acc++("":Str).cps++p.cps) acc=acc++xs.toArray
 |[],acc=>by simp
 |x::xs,acc=>by
  rw [List.map_cons,List.foldl_cons,pF xs];have:(("":Str)).cps=#[]:=by decide+kernel
  rw [this]
  apply Array.ext'
  simp
theorem join_one(xs:List Nat):Txt.join "" (xs.map fun x=>(⟨#[x]⟩:Str))=⟨xs.toArray⟩:=by
 cases xs with
 |nil=>rfl
 |cons x xs=>
  show(⟨List.foldl _ (#[x]:Array Nat) (xs.map _)⟩:Str)=_
  rw [pF]
  congr 1
  apply Array.ext'
  simp
theorem strs_map{α:Type}(f:α→Str):∀xs:List α,strsOf (xs.map fun x=>PV.str (f x))=some (xs.map f)
 |[]=>rfl
 |x::xs=>by simp only [List.map_cons,strsOf,strs_map f xs,Option.map_some]
theorem nj{rows:List Str}{w:Nat}(L:Fl rows w){j:Nat}(hj:j<w){z:Str}(hz:z∈rows):z.cps.toList[j]?=some ((z.cps.toList[j]?).getD 0):=by
 have hl:z.cps.size=w:=L.rect _ hz
 have:j<z.cps.toList.length:=by rw [Array.length_toList];omega
 rw [zzg this]
 rfl
theorem wG{rows:List Str}{w:Nat}(L:Fl rows w):Fl (iR rows w) rows.length:=by
 have w6:w≤6:=by
  have h:=List.getElem_mem L.ne
  rw [←L.rect _ h];exact L.rok.2 _ h
 have len:∀j,(⟨(j7 rows j).toArray⟩:Str).length=rows.length:=fun j=>by simp [Str.length,j7]
 refine⟨⟨by simpa [iR] using w6,fun z hz=>?_⟩,by simp only [iR,zzl,List.length_range];exact L.w1,L.ne,fun z hz=>?_,fun z hz x hx=>?_⟩<;>obtain⟨j,hj,rfl⟩:=List.mem_map.1 hz
 ·rw [len];exact L.rok.1
 ·exact len j
 ·obtain⟨y,hy,rfl⟩:=List.mem_map.1 (show x∈j7 rows j by simpa using hx)
  exact L.dig y hy _ (List.mem_of_getElem? (nj L (List.mem_range.1 hj) hy))
theorem Nq{rows:List Str}{w:Nat}(L:Fl rows w):Tw 2 rows.length w rows (iR rows w):=by
 have g2:∀r c:Int,gT 2 rows.length w r c=(c,r):=fun r c=>rfl
 refine wZ L (wG L) (fun r c=>?_) fun i j hi hj=>?_
 ·rw [g2];simp only [iR,zzl,List.length_range];omega
 ·rw [g2];simp only [Int.toNat_natCast];unfold cd iR;rw [List.getElem?_map,List.getElem?_range hj];show(j7 rows j).toArray.toList[i]?=_
  show(j7 rows j)[i]?=_
  unfold j7;rw [List.getElem?_map];cases hz:rows[i]? with
  |none=>rfl
  |some z=>exact(nj L hj (List.mem_of_getElem? hz)).symm
theorem u0(F:aV){rows:List Str}{w:Nat}(L:Fl rows w){y:Int}(h0:0≤y)(h3:y<3):∃bb w',af F aN [fl rows,.int y]=.ok (fl bb)∧Fl bb w'∧Tw y rows.length w rows bb:=by
 have l6:rows.length<dF:=Nat.lt_of_le_of_lt L.rok.1 (by decide)
 have tl:cV .tuple [.lst ((rows.map eT).map PV.str)]=.ok (fl (rows.map eT)):=rfl
 obtain rfl|rfl|rfl:y=0∨y=1∨y=2:=by omega
 ·refine⟨_,_,?_,xX L,O3 L⟩;simp only [aN,af,aa,ae,ah,aL,az,au,aS,aQ,aw,ay,ax,reduceIte,J,J2,zzl,l6];rw [cO (p:=PV.str) (g:=fun z=>PV.str (eT z)) (fun z hz=>by
   have hz:z.length≤dF:=Nat.le_trans (L.rok.2 z hz) (by decide)
   simp only [af,aa,ae,ah,aL,az,au,aS,aQ,aw,ay,ax,reduceIte,J,J2,hz])]
  simp only [af,aa,ae,ah,aL,az,au,aS,aQ,aw,ay,ax,reduceIte,J,J2];show Res.ok (PV.tup _)=Res.ok (PV.tup ((rows.map eT).map PV.str))
  rw [List.map_map]
  rfl
 ·refine⟨_,_,?_,yz L,OO L⟩;have e1:((1:Int)==0)=false:=by decide
  simp only [aN,af,aa,ae,ah,aL,az,au,aS,aQ,aw,ay,ax,reduceIte,J,J2,e1];show Res.ok (PV.tup (rows.map PV.str).reverse)=Res.ok (PV.tup (rows.reverse.map PV.str))
  rw [List.map_reverse]
 ·refine⟨_,_,?_,wG L,Nq L⟩;have e1:((2:Int)==0)=false:=by decide
  have e2:((2:Int)==1)=false:=by decide
  obtain⟨z0,f1,f2,f3⟩:=Kq L
  have w6:z0.length≤6:=by
   rw [f2];have h:=List.getElem_mem L.ne
   rw [←L.rect _ h];exact L.rok.2 _ h
  have s6:aP (z0.length:Int)=true:=by
   unfold aP;rw [zza,decide_eq_true_eq,decide_eq_true_eq];omega
  have rg:dw 0 ((z0.length:Int)).toNat=(List.range w).map fun i:Nat=>PV.int (i:Int):=by
   rw [f2];unfold dw;refine List.map_congr_left fun i _=>?_
   rw [Int.zero_add]
  have wl:w<dF:=Nat.lt_of_le_of_lt (m:=6) (by omega) (by decide)
  simp only [aN,af,aa,ae,ah,aL,az,au,aS,aQ,aw,ay,ax,reduceIte,J,J2,e1,e2,f1,f3,s6,rg,zzl,List.length_range,wl];rw [cO (p:=fun i:Nat=>PV.int (i:Int)) (g:=fun j:Nat=>PV.str ⟨(j7 rows j).toArray⟩) (fun j hj=>by
   have hj:=List.mem_range.1 hj
   simp only [af,aa,ae,ah,aL,az,au,aS,aQ,aw,ay,ax,reduceIte,J,J2,zzl,l6];rw [cO (p:=PV.str) (g:=fun z=>PV.str ⟨#[(z.cps.toList[j]?).getD 0]⟩) (fun z hz=>by
    have e:=sW (z:=z) (i:=j) (Nat.le_trans (L.rok.2 z hz) (by decide)) (nj L hj hz)
    simp only [af,aa,ae,ah,aL,az,au,aS,aQ,aw,ay,ax,reduceIte,J,J2,e])]
   have st:=strs_map (fun z:Str=>(⟨#[(z.cps.toList[j]?).getD 0]⟩:Str)) rows
   have ln:("":Str).length≤16∧((rows.map fun z:Str=>(⟨#[(z.cps.toList[j]?).getD 0]⟩:Str)).map (·.length)).sum+(rows.map fun z:Str=>(⟨#[(z.cps.toList[j]?).getD 0]⟩:Str)).length≤dF:=by
    refine⟨by decide+kernel,?_⟩;have h1:∀l:List Str,((l.map fun z:Str=>(⟨#[(z.cps.toList[j]?).getD 0]⟩:Str)).map (·.length)).sum=l.length:=fun l=>by
     induction l with
     |nil=>rfl
     |cons a l ih=>
      rw [List.map_cons,List.map_cons,List.sum_cons,ih,List.length_cons];show 1+l.length=_
      omega
    rw [h1,zzl];exact Nat.le_trans (m:=12) (by have:=L.rok.1;omega) (by decide)
   have jn:Txt.join "" (rows.map fun z:Str=>(⟨#[(z.cps.toList[j]?).getD 0]⟩:Str))=⟨(j7 rows j).toArray⟩:=by
    rw [←join_one];unfold j7;rw [List.map_map]
    rfl
   have mj:sF .join [.str "",.lst (rows.map fun z:Str=>PV.str ⟨#[(z.cps.toList[j]?).getD 0]⟩)]=.ok (.str ⟨(j7 rows j).toArray⟩):=by
    show(Res.of (strsOf _)).bind _=_
    rw [st];show(if _ then _ else _)=_
    rw [if_pos ln,jn]
   simp only [af,aa,ae,ah,aL,az,au,aS,aQ,aw,ay,ax,reduceIte,J,J2,tV,mj])]
  simp only [af,aa,ae,ah,aL,az,au,aS,aQ,aw,ay,ax,reduceIte,J,J2];show Res.ok (PV.tup _)=Res.ok (PV.tup ((iR rows w).map PV.str))
  unfold iR;rw [List.map_map]
  rfl
theorem Bb(F:aV){rows:List Str}{w:Nat}(L:Fl rows w){y:Int}(h0:0≤y)(h3:y<3)(r c:Int):af F aR [fl rows,.int y,sp r c]=.ok (aq (gL y rows.length w [r,c])):=by
 obtain⟨z0,f1,f2,f3⟩:=Kq L
 have JA:(z0.length:Int)=(w:Int):=by rw [f2]
 obtain rfl|rfl|rfl:y=0∨y=1∨y=2:=by omega
 ·simp only [aR,af,aa,ae,ah,aL,az,au,aS,aQ,aw,ay,ax,reduceIte,J,J2,f1,JA,f3]
  rfl
 ·have e1:((1:Int)==0)=false:=by decide
  simp only [aR,af,aa,ae,ah,aL,az,au,aS,aQ,aw,ay,ax,reduceIte,J,J2,e1,zzl]
  rfl
 ·have e1:((2:Int)==0)=false:=by decide
  have e2:((2:Int)==1)=false:=by decide
  simp only [aR,af,aa,ae,ah,aL,az,au,aS,aQ,aw,ay,ax,reduceIte,J,J2,e1,e2]
  rfl
end K12
namespace K12
open PySem L2 Ci KJ
theorem sS:∀(n:Nat) (a b:List Int),eqs (ir n) (a.map .int) (b.map .int)=decide (a=b)
 |_,[],[]=>rfl
 |_,[],_::_=>rfl
 |_,_::_,[]=>rfl
 |n,x::a,y::b=>by
  have:ir n (.int x) (.int y)=(x==y):=by cases n<;>rfl
  simp only [List.map_cons,eqs,sS n a b,this];rw [Bool.eq_iff_iff];simp
theorem ou(n:Nat)(a b:List Int):ir (n+1) (aq a) (aq b)=decide (a=b):=sS n a b
theorem j0:∀(n:Nat) (a b:Ks),eqs (ir (n+1)) (a.map aq) (b.map aq)=decide (a=b)
 |_,[],[]=>rfl
 |_,[],_::_=>rfl
 |_,_::_,[]=>rfl
 |n,x::a,y::b=>by
  simp only [List.map_cons,eqs,j0 n a b,ou];rw [Bool.eq_iff_iff];simp
theorem Bh(n:Nat)(a:List Int):(a.map PV.int).all (Ci.plain n)=true:=by
 simp only [List.all_eq_true,List.mem_map]
 rintro x ⟨i,_,rfl⟩
 cases n<;>rfl
theorem nC(n:Nat)(a:List Int):Ci.plain (n+1) (aq a)=true:=Bh n a
theorem tQ(n:Nat)(a:Ks):(a.map aq).all (Ci.plain (n+1))=true:=by
 simp only [List.all_eq_true,List.mem_map]
 rintro x ⟨i,_,rfl⟩
 exact nC n i
theorem jc(n:Nat)(a:Ks):Ci.plain (n+2) (.lst (a.map aq))=true:=tQ n a
theorem Mq(a b:Ks):fG (.lst (a.map aq)) (.lst (b.map aq))=.ok (.bl (decide (a=b))):=by
 show(if(Ci.plain 9 (.lst (a.map aq))&&Ci.plain 9 (.lst (b.map aq)))=true then Res.ok (PV.bl (ir 9 (.lst (a.map aq)) (.lst (b.map aq)))) else .bad)=_
 rw [jc 7,jc 7];exact congrArg (fun z=>Res.ok (PV.bl z)) (j0 7 a b)
theorem K4(a b:Ks):iX (.lst (a.map aq)) (.lst (b.map aq))=.ok (.bl (!decide (a=b))):=by
 show(if(Ci.plain 9 (.lst (a.map aq))&&Ci.plain 9 (.lst (b.map aq)))=true then Res.ok (PV.bl (!ir 9 (.lst (a.map aq)) (.lst (b.map aq)))) else .bad)=_
 rw [jc 7,jc 7];exact congrArg (fun z=>Res.ok (PV.bl (!z))) (j0 7 a b)
theorem mem_keys(k:List Int)(L:Ks):B8 (aq k) (L.map aq)=decide (k∈L):=by
 unfold B8;rw [List.any_map,Bool.eq_iff_iff,List.any_eq_true,decide_eq_true_eq]
 constructor
 ·rintro ⟨x,hx,e⟩
  have:decide (x=k)=true:=(ou 8 x k).symm.trans e
  exact of_decide_eq_true this▸hx
 ·intro h;exact⟨k,h,(ou 8 k k).trans (decide_eq_true rfl)⟩
theorem Kc(k:List Int)(L:Ks):fb (aq k) (.lst (L.map aq))=.ok (.bl (!decide (k∈L))):=by
 show(if(Ci.plain 9 (aq k)&&(L.map aq).all (Ci.plain 9))=true then Res.ok (PV.bl (!B8 (aq k) (L.map aq))) else .bad)=_
 rw [nC 8,tQ 8,mem_keys]
 rfl
theorem FX{α:Type}(xs:List α){k:Nat}(h:k≤xs.length):qL xs none (some (k:Int))=xs.take k:=by
 unfold qL;rw [HT.sIx_nat,HT.sIx_none,List.drop_zero,Nat.min_eq_left h,Nat.sub_zero]
theorem Ga{α:Type}(xs:List α){k:Nat}(h:k≤xs.length):qL xs (some (k:Int)) none=xs.drop k:=by
 unfold qL;rw [HT.sIx_nat,HT.sIx_none,Nat.min_eq_left h];exact List.take_of_length_le (by simp)
end K12
namespace K12
open PySem L2 Ci KJ
def hL(rows:List Str):List Int→Int
 |[r,c]=>bG rows r c
 |_=>0
theorem F8{rows:List Str}{sl:Bool}{cl pr:Int}{u v:List Int}{e:Int}(h:E1 rows sl cl pr u v e):E1 rows sl cl pr v u (e-(pr*hL rows v-pr*hL rows u)):=by
 obtain⟨r,c,r',c',rfl,rfl,h3,h4,h5⟩:=h
 rw [cF] at h5;obtain⟨a1,a2,a3,a4,a5⟩:=h5
 refine⟨r',c',r,c,rfl,rfl,h4,h3,cF.2 ⟨?_,fun z=>?_,a4,a3,?_⟩⟩
 ·unfold far at a1⊢;omega
 ·obtain⟨a,b,d⟩:=a2 ⟨fun x=>z.1 x.symm,fun x=>z.2 x.symm⟩
  exact⟨a,d,b⟩
 ·have hf:(if r'≠r∧c'≠c then(3:Int) else 2)=if r≠r'∧c≠c' then 3 else 2:=by
   by_cases q:r≠r'∧c≠c'
   ·rw [if_pos q,if_pos ⟨fun x=>q.1 x.symm,fun x=>q.2 x.symm⟩]
   ·rw [if_neg q,if_neg fun z=>q ⟨fun x=>z.1 x.symm,fun x=>z.2 x.symm⟩]
  rw [hf,a5];show _-(pr*bG rows r' c'-pr*bG rows r c)=_
  generalize (if r≠r'∧c≠c' then(3:Int) else 2)=f
  have m1:=Int.mul_sub pr (bG rows r' c') (bG rows r c)
  have m2:=Int.mul_sub pr (bG rows r c) (bG rows r' c')
  by_cases q1:bG rows r' c'-bG rows r c>0
  ·rw [if_pos q1,if_neg (by omega),Int.mul_zero,m1];omega
  ·rw [if_neg q1,Int.mul_zero]
   by_cases q2:bG rows r c-bG rows r' c'>0
   ·rw [if_pos q2,m2];omega
   ·rw [if_neg q2,Int.mul_zero,show bG rows r' c'=bG rows r c by omega];omega
theorem jq{rows:List Str}{sl:Bool}{cl pr:Int}{u v:List Int}{c:Int}(h:dU (E1 rows sl cl pr) u v c):dU (E1 rows sl cl pr) v u (c-(pr*hL rows v-pr*hL rows u)):=by
 induction h with
 |here=>rw [Int.sub_self];exact .here
 |@go a b d e _ he ih=>
  have:=dU.cons (F8 he) ih
  rwa [show e-(pr*hL rows b-pr*hL rows a)+(d-(pr*hL rows a-pr*hL rows u))=d+e-(pr*hL rows b-pr*hL rows u) by omega] at this
theorem dU.trans{E:List Int→List Int→Int→Prop}{u v x:List Int}{c d:Int}(h:dU E u v c)(k:dU E v x d):dU E u x (c+d):=by
 induction k with
 |here=>rwa [Int.add_zero]
 |go _ he ih=>have:=ih.go he;rwa [Int.add_assoc] at this
theorem AW{rows:List Str}{sl:Bool}{cl pr:Int}{u v:List Int}{kd kb:Ks}{vd vb:List PV}(D:kU (E1 rows sl cl pr) u kd vd)(B:kU (E1 rows sl cl pr) v kb vb){a b:Int}(ha:ai kd vd v=some (.int a))(hb:ai kb vb u=some (.int b)):a-b=pr*(hL rows v-hL rows u):=by
 obtain⟨_,e1,w1,l1⟩:=D.iff.1 ha
 cases e1;obtain⟨_,e2,w2,l2⟩:=B.iff.1 hb
 cases e2;have x1:=l2 _ (jq w1)
 have x2:=l1 _ (jq w2)
 rw [Int.mul_sub];omega
inductive Dm(E:List Int→List Int→Int→Prop):Ks→Int→Prop
 |one {x:List Int}:Dm E [x] 0
 |cons {x y:List Int} {l:Ks} {e d:Int}:E x y e→Dm E (y::l) d→Dm E (x::y::l) (e+d)
theorem pV{E:List Int→List Int→Int→Prop}{s k:List Int}{l:Ks}{d:Int}(h:qK E s k l d):∃t,l=k::t:=by
 cases h with
 |here=>exact⟨_,rfl⟩
 |go _ _=>exact⟨_,rfl⟩
theorem eL{E:List Int→List Int→Int→Prop}{g u:List Int}{l:Ks}{d:Int}(h:qK (fun a b e=>E b a e) g u l d):dU E u g d:=by
 induction h with
 |here=>exact .here
 |go _ he ih=>have:=dU.cons he ih;rwa [Int.add_comm] at this
theorem Ar{E:List Int→List Int→Int→Prop}{g u:List Int}{l:Ks}{d:Int}(h:qK (fun a b e=>E b a e) g u l d):∀i,i<l.length→∃x p,l[i]?=some x∧Dm E (l.take (i+1)) p∧dU E u x p∧dU E x g (d-p):=by
 induction h with
 |here=>
  intro i hi;have:i=0:=by simpa using hi
  subst this;exact⟨g,0,rfl,.one,.here,.here⟩
 |@go u v l d e ht he ih=>
  intro i hi;cases i with
  |zero=>
   refine⟨v,0,rfl,.one,.here,?_⟩;have:=dU.cons (E:=E) he (eL ht)
   rwa [Int.sub_zero,Int.add_comm]
  |succ j=>
   obtain⟨x,p,h1,h2,h3,h4⟩:=ih j (by simpa using hi)
   obtain⟨t,rfl⟩:=pV ht
   refine⟨x,e+p,h1,?_,.cons he h3,?_⟩
   ·exact .cons he h2
   ·rwa [show d+e-(e+p)=d-p by omega]
theorem vU{E:List Int→List Int→Int→Prop}{s g:List Int}{kd:Ks}{vd:List PV}(D:kU E s kd vd){l:Ks}{d:Int}(ht:qK (fun a b e=>E b a e) g s l d)(hl:∀c,dU E s g c→d≤c)(i:Nat)(hi:i<l.length):∃x p,l[i]?=some x∧Dm E (l.take (i+1)) p∧ai kd vd x=some (.int p):=by
 obtain⟨x,p,h1,h2,h3,h4⟩:=Ar ht i hi
 refine⟨x,p,h1,h2,D.iff.2 ⟨p,rfl,h3,fun c hc=>?_⟩⟩
 have:=hl _ (hc.trans h4)
 omega
theorem F1{rows:List Str}{sl:Bool}{cl pr:Int}{l:Ks}{d:Int}(h:Dm (E1 rows sl cl pr) l d)(h0:∀x,l=[x]→ye rows x):∀x∈l,ye rows x:=by
 induction h with
 |one=>intro x hx;rw [List.mem_singleton.1 hx];exact h0 _ rfl
 |@cons x y l e d he hp ih=>
  obtain⟨r,c,r',c',h1,h2,h3,h4,_⟩:=he
  intro z hz;rcases List.mem_cons.1 hz with rfl|hz
  ·exact⟨r,c,h1,h3⟩
  ·exact ih (fun w hw=>by cases hw;exact⟨r',c',h2,h4⟩) z hz
theorem Hm{rows:List Str}{sl:Bool}{cl pr:Int}{u v:List Int}{e e':Int}(h:E1 rows sl cl pr u v e)(h':E1 rows sl cl pr u v e'):e'=e:=by
 obtain⟨r,c,r',c',rfl,rfl,_,_,h5⟩:=h
 obtain⟨_,_,_,_,g1,g2,_,_,g5⟩:=h'
 cases g1;cases g2;rw [h5] at g5;cases g5
 rfl
theorem kF{f:PV→Res (Option PV)}{g:List Int}(hf:∀t:List Int×Int,f (tK t)=.ok (if decide (t.1=g) then some (.int t.2) else none)):∀T:List (List Int×Int),bp f (T.map tK)=.ok (((T.filter fun t=>decide (t.1=g)).map (·.2)).map PV.int)
 |[]=>rfl
 |t::T=>by
  simp only [List.map_cons,bp,hf,HE,uA,kF hf T,List.filter_cons];cases(decide (t.1=g))<;>rfl
theorem wR{rows:List Str}{sl:Bool}{cl pr:Int}{u g:List Int}{e:Int}{T:List (List Int×Int)}(hT:∀v e,(v,e)∈T↔E1 rows sl cl pr u v e)(he:E1 rows sl cl pr u g e):∃ns,(T.filter fun t=>decide (t.1=g)).map (·.2)=e::ns:=by
 cases hq:T.filter fun t=>decide (t.1=g) with
 |nil=>
  have:(g,e)∈T.filter fun t=>decide (t.1=g):=List.mem_filter.2 ⟨(hT g e).2 he,decide_eq_true rfl⟩
  rw [hq] at this;cases this
 |cons t r=>
  have:t∈T.filter fun t=>decide (t.1=g):=by rw [hq];exact List.mem_cons_self ..
  obtain⟨h1,h2⟩:=List.mem_filter.1 this
  obtain⟨a,b⟩:=t
  have h2:a=g:=of_decide_eq_true h2
  subst h2;rw [List.map_cons];exact⟨_,congrArg (·::_) (Hm he ((hT a b).1 h1))⟩
noncomputable def sH:Ss:=(.cons (.set 7 (.compIf 1 [6] (.one 0) (.seq (.call "_law_steps" (.cons (.var 0) (.cons (.var 1) (.cons (.sub (.var 2) (.var 5)) .nil))))) (.cmp .eq (.sub (.var 0) (.cst (.int 0))) (.var 1)) (.sub (.var 0) (.cst (.int 1)))))
 (.cons (.ite (.cmp .eq (.var 7) (.lst .nil))
  (.cons (.ret (.cst .non))
  .nil)
  .nil)
 (.cons (.set 4 (.bin .add (.var 4) (.sub (.var 7) (.cst (.int 0)))))
 .nil)))
theorem Np(a b:List Int):fG (aq a) (aq b)=.ok (.bl (decide (a=b))):=by
 show(if(Ci.plain 9 (aq a)&&Ci.plain 9 (aq b))=true then Res.ok (PV.bl (ir 9 (aq a) (aq b))) else .bad)=_
 rw [nC 8,nC 8];exact congrArg (fun z=>Res.ok (PV.bl z)) (ou 8 a b)
theorem pY(F:aV)(hs:g7 F){rows:List Str}{w:Nat}(L:Fl rows w){sl:Bool}{cl pr:Int}(V:Wk cl pr)(A:PV)(W:Ks):∀(l:Ks) (x:List Int) (d s:Int) (k:Nat) (s5 s6 s7:Ci.Slot),Dm (E1 rows sl cl pr) (x::l) d→W.drop k=x::l→∃t5 t6 t7,forL (fun x env=>((Tg.two 5 6).put x env).bind fun aE=>ah F sH aE) (cB k (l.map aq)) [.val (fl rows),.val (wk sl cl pr),.val (.lst (W.map aq)),.val A,.val (.int s),s5,s6,s7]=.ok (.nx [.val (fl rows),.val (wk sl cl pr),.val (.lst (W.map aq)),.val A,.val (.int (s+d)),t5,t6,t7])
 |[],x,d,s,k,s5,s6,s7,hp,hW=>by
  cases hp;exact⟨s5,s6,s7,by rw [Int.add_zero];rfl⟩
 |y::l,x,d,s,k,s5,s6,s7,hp,hW=>by
  cases hp with
  |@cons _ _ _ e d he hp=>
   obtain⟨r,c,hx,ho⟩:ye rows x:=by obtain⟨r,c,_,_,h1,_,h3,_⟩:=he;exact⟨r,c,h1,h3⟩
   obtain⟨T,e1,lT,_,hT⟩:=hs rows w L sl cl pr V r c ho
   rw [←hx] at e1 hT;obtain⟨ns,hn⟩:=wR hT he
   have lT:T.length<dF:=Nat.lt_of_le_of_lt lT (by decide)
   have hk:W[k]?=some x:=by
    have:=congrArg (fun z:Ks=>z[0]?) hW
    simpa using this
   have NC:=(List.getElem?_eq_some_iff.1 hk).1
   have es:aM (.lst (W.map aq)) (.int k)=.ok (aq x):=by
    simp only [aM];rw [fK (k:=k) (by simpa using NC)];rw [List.getElem_map,(List.getElem?_eq_some_iff.1 hk).2]
    rfl
   have t0:∀t:List Int×Int,aM (tK t) (.int 0)=.ok (aq t.1):=fun t=>rfl
   have t1:∀t:List Int×Int,aM (tK t) (.int 1)=.ok (.int t.2):=fun t=>rfl
   have q1:fG (.lst ((e::ns).map PV.int)) (.lst [])=.ok (.bl false):=by
    have:=eq_nil (e::ns)
    rwa [decide_eq_false (List.cons_ne_nil _ _)] at this
   have q2:aM (.lst ((e::ns).map PV.int)) (.int 0)=.ok (.int e):=by
    simp only [aM];rw [show(0:Int)=((0:Nat):Int) from rfl,fK (k:=0) (by simp)]
    rfl
   rw [List.map_cons] at q1 q2;have eb:(((Tg.two 5 6).put (.tup [.int (k:Nat),aq y]) [.val (fl rows),.val (wk sl cl pr),.val (.lst (W.map aq)),.val A,.val (.int s),s5,s6,s7]).bind fun aE=>ah F sH aE)=.ok (.nx [.val (fl rows),.val (wk sl cl pr),.val (.lst (W.map aq)),.val A,.val (.int (s+e)),.val (.int k),.val (aq y),.val (.lst ((e::ns).map PV.int))]):=by
    simp only [sH,af,aa,ae,ah,aL,az,au,aS,aQ,aw,ay,ax,reduceIte,J,J2,es,e1,zzl,lT];rw [kF (g:=y) (fun t=>by
     simp only [af,aa,ae,ah,aL,az,au,aS,aQ,aw,ay,ax,reduceIte,J,J2,t0,t1,Np];cases decide (t.1=y)<;>simp only [af,aa,ae,ah,aL,az,au,aS,aQ,aw,ay,ax,reduceIte,J,J2,t1]),hn]
    simp only [af,aa,ae,ah,aL,az,au,aS,aQ,aw,ay,ax,reduceIte,J,J2,q1,q2]
   obtain⟨t5,t6,t7,ih⟩:=pY F hs L V A W l y d (s+e) (k+1) (.val (.int k)) (.val (aq y)) (.val (.lst ((e::ns).map PV.int))) hp (by
    rw [←List.drop_drop,hW]
    rfl)
   refine⟨t5,t6,t7,?_⟩;rw [List.map_cons,cB,forL,eb,←Int.add_assoc];exact ih
theorem j8{α:Type}{f:PV→Res (Option PV)}{p:α→PV}:∀{xs:List α},(∀x∈xs,f (p x)=.ok none)→bp f (xs.map p)=.ok []
 |[],_=>rfl
 |x::xs,h=>by
  simp only [List.map_cons,bp,h x (List.mem_cons_self ..),HE,uA,j8 fun y hy=>h y (List.mem_cons_of_mem _ hy)]
  rfl
def wM(f:List PV→Res PV):Prop:=∀rows w,Fl rows w→∀sl cl pr,Wk cl pr→∀(l:Ks) d,Dm (E1 rows sl cl pr) l d→(∀x∈l,ye rows x)→l.length≤2000→f [fl rows,wk sl cl pr,.lst (l.map aq)]=.ok (.int d)
def jw(F:aV):Prop:=wM (F "_law_sum")
theorem Ee(F:aV)(hp:uz F)(hs:g7 F):wM (af F cA):=by
 intro rows w L sl cl pr V l d h ho hl;obtain⟨S,e1,_,lS,hS⟩:=hp rows L.rok
 have eS:S.map rN=(S.map fun p=>[(p.1:Int),(p.2:Int)]).map aq:=by rw [List.map_map];rfl
 rw [eS] at e1;generalize hK:(S.map fun p=>[(p.1:Int),(p.2:Int)])=K at e1
 have GJ:∀x∈l,x∈K:=fun x hx=>by
  obtain⟨r,c,rfl,hr⟩:=ho x hx
  obtain⟨a,b,h2⟩:=jd.1 hr
  rw [←hK];exact List.mem_map.2 ⟨(r.toNat,c.toNat),(hS _ _).2 h2,by rw [Int.toNat_of_nonneg a,Int.toNat_of_nonneg b]⟩
 obtain⟨x,t,rfl⟩:∃x t,l=x::t:=by cases h<;>exact⟨_,_,rfl⟩
 obtain⟨t5,t6,t7,e2⟩:=pY F hs L V (.lst (K.map aq)) (x::t) t x d 0 0 .no .no .no h rfl
 have ll:(x::t).length<dF:=Nat.lt_of_le_of_lt hl (by decide)
 have q1:fG (.lst ((x::t).map aq)) (.lst [])=.ok (.bl false):=by
  have:=Mq (x::t) []
  rwa [decide_eq_false (List.cons_ne_nil _ _)] at this
 have q2:iX (.lst []) (.lst [])=.ok (.bl false):=rfl
 have q3:eV (.lst ((x::t).map aq)) (some 1) none=.ok (.lst (t.map aq)):=by
  have:=Ga ((x::t).map aq) (k:=1) (by simp)
  exact congrArg (fun z=>Res.ok (PV.lst z)) this
 have db:cA.body=.cons (.set 3 (.call "_law_spots" (.cons (.var 0) .nil)))
  (.cons (.ite (.or (.not (.ty .list (.var 2))) (.or (.cmp .eq (.var 2) (.lst .nil)) (.cmp .ne (.compIf 1 [3] (.one 0) (.seq (.var 2)) (.cmp .nin (.var 0) (.var 1)) (.var 0)) (.lst .nil)))) (.cons (.ret (.cst .non)) .nil) .nil)
  (.cons (.set 4 (.cst (.int 0))) (.cons (.for_ (.two 5 6) (.enum (.slice (.var 2) (.some (.cst (.int 1))) .no)) sH) (.cons (.ret (.var 4)) .nil)))):=rfl
 have st:aa cA [fl rows,wk sl cl pr,.lst ((x::t).map aq)]=[.val (fl rows),.val (wk sl cl pr),.val (.lst ((x::t).map aq)),.no,.no,.no,.no,.no]:=rfl
 have ar:ae cA [fl rows,wk sl cl pr,.lst ((x::t).map aq)]=true:=rfl
 unfold af;rw [ar,if_pos rfl,st,db];rw [List.map_cons] at q1 q3;have ll:t.length+1<dF:=ll
 have hc:bp (fun x=>(fb x (.lst (K.map aq))).bind fun t=>qA t fun t=>if t=true then Res.ok (some x) else Res.ok none) (aq x::t.map aq)=.ok []:=by
  rw [←List.map_cons (f:=aq)];refine j8 fun y hy=>?_
  have q:=Kc y K
  rw [decide_eq_true (GJ y hy)] at q;rw [q]
  rfl
 simp only [af,aa,ae,ah,aL,az,au,aS,aQ,aw,ay,ax,reduceIte,J,J2] at e2⊢;simp only [af,aa,ae,ah,aL,az,au,aS,aQ,aw,ay,ax,reduceIte,J,J2,e1,q1,zzl,ll,hc,q2,q3,e2,Int.zero_add]
end K12
namespace K12
open PySem L2 Ci KJ
noncomputable def rB:Ss:=(.cons (.ite (.cmp .ne (.sub (.var 7) (.sub (.var 14) (.var 15))) (.call "_law_sum" (.cons (.var 1) (.cons (.var 2) (.cons (.slice (.var 14) .no (.some (.bin .add (.var 15) (.cst (.int 1))))) .nil)))))
 (.cons (.ret (.cst (.bl false)))
 .nil)
 .nil)
 .nil)
noncomputable def tE:Ss:=(.cons (.set 14 (.sub (.var 11) (.cst (.int 1)))) (.cons (.for_ (.one 15) (.rng (.blt .len (.cons (.var 14) .nil))) rB) (.cons (.ret (.cmp .eq (.sub (.var 11) (.cst (.int 0))) (.sub (.var 7) (.var 5)))) .nil)))
noncomputable def tD:Ss:=(.cons (.set 13 (.bin .sub (.blt .int (.cons (.sub (.sub (.var 1) (.sub (.var 5) (.cst (.int 0)))) (.sub (.var 5) (.cst (.int 1)))) .nil)) (.blt .int (.cons (.sub (.sub (.var 1) (.sub (.var 4) (.cst (.int 0)))) (.sub (.var 4) (.cst (.int 1)))) .nil))))
 (.cons (.ite (.cmp .ne (.bin .sub (.sub (.var 7) (.var 5)) (.sub (.var 8) (.var 4))) (.bin .mul (.sub (.var 2) (.cst (.int 2))) (.var 13)))
  (.cons (.ret (.cst (.bl false)))
  .nil)
  .nil) tE))
noncomputable def tC:Ss:=(.cons (.ite (.cmp .in_ (.var 6) (.var 7))
 (.cons (.set 12 (.blt .dict (.cons (.call "distances_from" (.cons (.var 1) (.cons (.var 2) (.cons (.var 6) .nil)))) .nil)))
 (.cons (.ite (.cmp .gt (.sub (.var 7) (.var 5)) (.bin .add (.sub (.var 7) (.var 6)) (.sub (.var 12) (.var 5))))
  (.cons (.ret (.cst (.bl false)))
  .nil)
  .nil)
 .nil))
 .nil) tD)
noncomputable def tB:Ss:=(.cons (.set 11 (.call "least_way" (.cons (.var 1) (.cons (.var 2) (.cons (.var 4) (.cons (.var 5) .nil))))))
 (.cons (.ite (.cmp .nin (.var 5) (.var 7))
  (.cons (.ret (.and (.cmp .is (.var 11) (.cst .non)) (.cmp .nin (.var 4) (.var 8))))
  .nil)
  .nil) tC))
noncomputable abbrev En(ns:List Int)(rows:List Str)(sl:Bool)(cl pr:Int)(sps:PV)(r c r' c' a b:Int)(kd:Ks)(vd:List PV)(kb:Ks)(vb:List PV)(y z:PV)(zf vM wa vC uC:Ci.Slot):Sl:=[.val (eY ns),.val (fl rows),.val (wk sl cl pr),.val sps,.val (sp r c),.val (sp r' c'),.val (sp a b),.val (.dct kd vd),.val (.dct kb vb),.val y,.val z,zf,vM,wa,vC,uC]
theorem inD(k:List Int)(ks:Ks)(vs:List PV):rn (aq k) (.dct ks vs)=.ok (.bl (cJ ks k)):=by
 show(Res.of (iF (aq k))).bind (fun k=>Res.ok (PV.bl (cJ ks k)))=_
 rw [dY]
 rfl
theorem Iu(F:aV){ns:List Int}{rows:List Str}{w:Nat}(L:Fl rows w){sl:Bool}{cl pr:Int}(V:Wk cl pr){sps:PV}{r c r' c' a b:Int}{kd:Ks}{vd:List PV}{kb:Ks}{vb:List PV}{y z:PV}(hs:jw F)(ho:bt rows r c=true)(D:kU (E1 rows sl cl pr) [r,c] kd vd){d:Int}{l:Ks}(ht:qK (fun a b e=>E1 rows sl cl pr b a e) [r',c'] [r,c] l d)(hl:l.length≤2000)(hd:∀x,dU (E1 rows sl cl pr) [r,c] [r',c'] x→d≤x)(vM wa vC uC:Ci.Slot):
 ah F tE (En ns rows sl cl pr sps r c r' c' a b kd vd kb vb y z (.val (.tup [.int d,.lst (l.map aq)])) vM wa vC uC)=.ok (.rt (.bl true)):=by
 have ed:ai kd vd [r',c']=some (.int d):=D.iff.2 ⟨d,rfl,eL ht,hd⟩
 have e1:=qu ed
 have k1:aq [r',c']=sp r' c':=rfl
 rw [k1] at e1;have p0:aM (.tup [.int d,.lst (l.map aq)]) (.int 0)=.ok (.int d):=rfl
 have p1:aM (.tup [.int d,.lst (l.map aq)]) (.int 1)=.ok (.lst (l.map aq)):=rfl
 have sm:aP (l.length:Int)=true:=by simp only [aP,zza,decide_eq_true_eq];omega
 obtain⟨aE,e2,s,rfl⟩:=ef (body:=fun x env=>((Tg.one 15).put x env).bind fun aE=>ah F rB aE) (P:=fun _ env=>∃s,env=En ns rows sl cl pr sps r c r' c' a b kd vd kb vb y z (.val (.tup [.int d,.lst (l.map aq)])) vM wa (.val (.lst (l.map aq))) s) (dw 0 l.length) 0 _ ⟨uC,rfl⟩ (fun i x env hx hP=>by
  obtain⟨s,rfl⟩:=hP
  obtain⟨hi,rfl⟩:=qW hx
  obtain⟨x,p,h1,h2,h3⟩:=vU D ht hd i hi
  obtain⟨h1a,h1b⟩:=List.getElem?_eq_some_iff.1 h1
  have g1:aM (.lst (l.map aq)) (.int i)=.ok (aq x):=by
   simp only [aM];rw [fK (k:=i) (by simpa using hi),List.getElem_map,h1b]
   rfl
  have g2:=qu h3
  have g3:eV (.lst (l.map aq)) none (some ((i:Int)+1))=.ok (.lst ((l.take (i+1)).map aq)):=by
   have:=FX (l.map aq) (k:=i+1) (by rw [zzl];omega)
   rw [Int.natCast_add,Int.natCast_one] at this;rw [List.map_take];exact congrArg (fun z=>Res.ok (PV.lst z)) this
  have g4:=hs rows w L sl cl pr V (l.take (i+1)) p h2 (F1 h2 fun q hq=>by
   obtain⟨t,rfl⟩:=pV ht
   rw [List.take_succ_cons] at hq;exact⟨r,c,(List.cons.inj hq).1.symm,ho⟩) (Nat.le_trans (List.length_take_le' _ _) hl)
  refine⟨_,?_,.val (.int i),rfl⟩;simp only [rB,af,aa,ae,ah,aL,az,au,aS,aQ,aw,ay,ax,reduceIte,J,beq_self_eq_true,J2,g1,g2,g3,g4,nI,Bool.not_true])
 simp only [af,aa,ae,ah,aL,az,au,aS,aQ,aw,ay,ax,reduceIte,J,beq_self_eq_true,J2] at e2;simp only [tE,af,aa,ae,ah,aL,az,au,aS,aQ,aw,ay,ax,reduceIte,J,beq_self_eq_true,J2,p0,p1,zzl,sm,Int.toNat_natCast,e2,e1]
theorem Dj(F:aV){ns:List Int}{rows:List Str}{w:Nat}(L:Fl rows w){sl:Bool}{cl pr:Int}(V:Wk cl pr){sps:PV}{r c r' c' a b:Int}{kd:Ks}{vd:List PV}{kb:Ks}{vb:List PV}{y z:PV}(hs:jw F)(ho:bt rows r c=true)(eN:bt rows r' c'=true)(D:kU (E1 rows sl cl pr) [r,c] kd vd)(B:kU (E1 rows sl cl pr) [r',c'] kb vb){d:Int}{l:Ks}(ht:qK (fun a b e=>E1 rows sl cl pr b a e) [r',c'] [r,c] l d)(hl:l.length≤2000)(hd:∀x,dU (E1 rows sl cl pr) [r,c] [r',c'] x→d≤x)(vM wa vC uC:Ci.Slot):
 ah F tD (En ns rows sl cl pr sps r c r' c' a b kd vd kb vb y z (.val (.tup [.int d,.lst (l.map aq)])) vM wa vC uC)=.ok (.rt (.bl true)):=by
 obtain⟨z1,x1,a1,a2,a3,_⟩:=gJ L ho
 obtain⟨z2,x2,b1,b2,b3,_⟩:=gJ L eN
 have ed:ai kd vd [r',c']=some (.int d):=D.iff.2 ⟨d,rfl,eL ht,hd⟩
 obtain⟨m,hm,_⟩:=B.low (jq (eL ht))
 have e1:=qu ed
 have e2:=qu hm
 have k1:aq [r',c']=sp r' c':=rfl
 have k2:aq [r,c]=sp r c:=rfl
 rw [k1] at e1;rw [k2] at e2;have ri:d-m=pr*(bG rows r' c'-bG rows r c):=AW D B ed hm
 have ms:=iL (j:=bG rows r' c'-bG rows r c) V.p0 V.p4
 have nx:=Iu F L V (ns:=ns) (sps:=sps) (a:=a) (b:=b) (kb:=kb) (vb:=vb) (y:=y) (z:=z) hs ho D ht hl hd vM (.val (.int (bG rows r' c'-bG rows r c))) vC uC
 simp only [tD,af,aa,ae,ah,aL,az,au,aS,aQ,aw,ay,ax,reduceIte,J,beq_self_eq_true,J2,a1,a2,a3,b1,b2,b3,e1,e2,ms,nI,ri,Bool.not_true,nx]
theorem Hk(F:aV){ns:List Int}{rows:List Str}{w:Nat}(L:Fl rows w){sl:Bool}{cl pr:Int}(V:Wk cl pr){sps:PV}{r c r' c' a b:Int}{kd:Ks}{vd:List PV}{kb:Ks}{vb:List PV}{y z:PV}(hs:jw F)(LV:kG F)(ho:bt rows r c=true)(eN:bt rows r' c'=true)(zM:bt rows a b=true)(D:kU (E1 rows sl cl pr) [r,c] kd vd)(B:kU (E1 rows sl cl pr) [r',c'] kb vb){d:Int}{l:Ks}(ht:qK (fun a b e=>E1 rows sl cl pr b a e) [r',c'] [r,c] l d)(hl:l.length≤2000)(hd:∀x,dU (E1 rows sl cl pr) [r,c] [r',c'] x→d≤x)(vM wa vC uC:Ci.Slot):
 ah F tC (En ns rows sl cl pr sps r c r' c' a b kd vd kb vb y z (.val (.tup [.int d,.lst (l.map aq)])) vM wa vC uC)=.ok (.rt (.bl true)):=by
 have hi:=inD [a,b] kd vd
 have k3:aq [a,b]=sp a b:=rfl
 rw [k3,aX (vs:=vd) [a,b] D.len] at hi;cases hv:ai kd vd [a,b] with
 |none=>
  rw [hv] at hi;have nx:=Dj F L V (ns:=ns) (sps:=sps) (a:=a) (b:=b) (y:=y) (z:=z) hs ho eN D B ht hl hd vM wa vC uC
  simp only [tC,af,aa,ae,ah,aL,az,au,aS,aQ,aw,ay,ax,reduceIte,J,beq_self_eq_true,J2,hi,Option.isSome_none,nx]
 |some v=>
  rw [hv] at hi;obtain⟨x,rfl,w1,_⟩:=D.iff.1 hv
  obtain⟨xs,k4,v4,e4,e5,D4⟩:=LV rows w L sl cl pr V a b zM
  obtain⟨q,hq,_⟩:=D4.low ((jq w1).trans (eL ht))
  obtain⟨_,e6,w2,_⟩:=D4.iff.1 hq
  cases e6;have le:¬(x+q<d):=by have:=hd _ (w1.trans w2);omega
  have ed:ai kd vd [r',c']=some (.int d):=D.iff.2 ⟨d,rfl,eL ht,hd⟩
  have e1:=qu ed
  have e2:=qu hv
  have e3:=qu hq
  have k1:aq [r',c']=sp r' c':=rfl
  rw [k1] at e1 e3;rw [k3] at e2;have nx:=Dj F L V (ns:=ns) (sps:=sps) (a:=a) (b:=b) (y:=y) (z:=z) hs ho eN D B ht hl hd (.val (.dct k4 v4)) wa vC uC
  simp only [tC,af,aa,ae,ah,aL,az,au,aS,aQ,aw,ay,ax,reduceIte,J,beq_self_eq_true,J2,hi,Option.isSome_some,e4,e5,e1,e2,e3,le,decide_false,nx]
theorem Ic(F:aV){ns:List Int}{rows:List Str}{w:Nat}(L:Fl rows w){sl:Bool}{cl pr:Int}(V:Wk cl pr){sps:PV}{r c r' c' a b:Int}{kd:Ks}{vd:List PV}{kb:Ks}{vb:List PV}{y z:PV}(hs:jw F)(LV:kG F)(hle:je F)(ho:bt rows r c=true)(eN:bt rows r' c'=true)(zM:bt rows a b=true)(D:kU (E1 rows sl cl pr) [r,c] kd vd)(B:kU (E1 rows sl cl pr) [r',c'] kb vb)(zf vM wa vC uC:Ci.Slot):
 ah F tB (En ns rows sl cl pr sps r c r' c' a b kd vd kb vb y z zf vM wa vC uC)=.ok (.rt (.bl true)):=by
 obtain⟨p,ep,hp⟩:=hle rows w L sl cl pr V r c r' c' ho eN
 have k1:aq [r',c']=sp r' c':=rfl
 have k2:aq [r,c]=sp r c:=rfl
 rcases hp with⟨rfl,hn⟩|⟨d,l,rfl,ht,hl,hd⟩
 ·have n1:ai kd vd [r',c']=none:=by
   cases hv:ai kd vd [r',c'] with
   |none=>rfl
   |some v=>obtain⟨x,_,hw⟩:=D.wlk _ _ hv;exact absurd hw (hn x)
  have n2:ai kb vb [r,c]=none:=by
   cases hv:ai kb vb [r,c] with
   |none=>rfl
   |some v=>obtain⟨x,_,hw⟩:=B.wlk _ _ hv;exact absurd (jq hw) (hn _)
  have q1:fb (sp r' c') (.dct kd vd)=.ok (.bl true):=by
   rw [←k1,nD,aX (vs:=vd) _ D.len,n1]
   rfl
  have q2:fb (sp r c) (.dct kb vb)=.ok (.bl true):=by
   rw [←k2,nD,aX (vs:=vb) _ B.len,n2]
   rfl
  have q3:rO .non .non=.ok (.bl true):=rfl
  simp only [tB,af,aa,ae,ah,aL,az,au,aS,aQ,aw,ay,ax,reduceIte,J,beq_self_eq_true,J2,ep,q1,q2,q3]
 ·have ed:ai kd vd [r',c']=some (.int d):=D.iff.2 ⟨d,rfl,eL ht,hd⟩
  have q1:fb (sp r' c') (.dct kd vd)=.ok (.bl false):=by
   rw [←k1,nD,aX (vs:=vd) _ D.len,ed]
   rfl
  have nx:=Hk F L V (ns:=ns) (sps:=sps) (y:=y) (z:=z) hs LV ho eN zM D B ht hl hd vM wa vC uC
  simp only [tB,af,aa,ae,ah,aL,az,au,aS,aQ,aw,ay,ax,reduceIte,J,beq_self_eq_true,J2,ep,q1,nx]
end K12
namespace K12
open PySem L2 Ci KJ
theorem oq{rows:List Str}{Sp:List (Nat×Nat)}(hm:∀r c,(r,c)∈Sp↔wm rows r c=true){m:Int}(h0:0≤m)(h1:m<Sp.length):∃r c:Int,aM (.lst (Sp.map rN)) (.int m)=.ok (sp r c)∧bt rows r c=true:=by
 obtain⟨k,rfl⟩:=Int.eq_ofNat_of_zero_le h0
 have hk:k<Sp.length:=by omega
 refine⟨(Sp[k]).1,(Sp[k]).2,?_,?_⟩
 ·simp only [aM];rw [fK (k:=k) (by simpa using hk),List.getElem_map]
  rfl
 ·refine jd.2 ⟨by omega,by omega,?_⟩;have:=(hm (Sp[k]).1 (Sp[k]).2).1 (List.getElem_mem hk)
  simpa using this
def Ct(F:aV):Prop:=∀rows w,Fl rows w→∀y:Int,0≤y→y<3→∀r c,F "_law_turned_spot" [fl rows,.int y,sp r c]=.ok (aq (gL y rows.length w [r,c]))
def FP(F:aV):Prop:=∀rows w,Fl rows w→∀y:Int,0≤y→y<3→∃bb w',F "_law_turned_floor" [fl rows,.int y]=.ok (fl bb)∧Fl bb w'∧Tw y rows.length w rows bb
theorem yH(F:aV)(dm:Ct F){rows:List Str}{w:Nat}(L:Fl rows w){y:Int}(h0:0≤y)(h3:y<3){sl:Bool}{cl pr r0 c0:Int}(ho:bt rows r0 c0=true){kd:Ks}{vd:List PV}(D:kU (E1 rows sl cl pr) [r0,c0] kd vd):
 ∀k∈kd,F "_law_turned_spot" [fl rows,.int y,aq k]=.ok (aq (gL y rows.length w k))∧aM (.dct kd vd) (aq k)=.ok ((ai kd vd k).getD .non):=by
 intro k hk;have hh:(ai kd vd k).isSome=true:=by rw [←aX k D.len,cC];exact hk
 obtain⟨v,hv⟩:=Option.isSome_iff_exists.1 hh
 obtain⟨x,rfl,hw⟩:=D.wlk k v hv
 obtain⟨r,c,rfl,_⟩:=qS ⟨r0,c0,rfl,ho⟩ hw
 exact⟨dm rows w L y h0 h3 r c,by rw [qu hv,hv];rfl⟩
noncomputable def oC:Ss:=(.cons (.ite (.cmp .neD (.var 10) (.blt .dict (.cons (.comp 1 [9,1,7] (.one 0) (.seq (.var 7)) (.tup (.cons (.call "_law_turned_spot" (.cons (.var 2) (.cons (.var 1) (.cons (.var 0) .nil)))) (.cons (.sub (.var 3) (.var 0)) .nil)))) .nil))) (.cons (.ret (.cst (.bl false))) .nil) .nil) tB)
noncomputable def oB:Ss:=(.cons (.set 7 (.blt .dict (.cons (.call "distances_from" (.cons (.var 1) (.cons (.var 2) (.cons (.var 4) .nil)))) .nil)))
 (.cons (.set 8 (.blt .dict (.cons (.call "distances_from" (.cons (.var 1) (.cons (.var 2) (.cons (.var 5) .nil)))) .nil)))
 (.cons (.set 9 (.call "_law_pick" (.cons (.var 0) (.cons (.cst (.int 53)) (.cons (.cst (.int 3)) .nil)))))
 (.cons (.set 10 (.blt .dict (.cons (.call "distances_from" (.cons (.call "_law_turned_floor" (.cons (.var 1) (.cons (.var 9) .nil))) (.cons (.var 2) (.cons (.call "_law_turned_spot" (.cons (.var 1) (.cons (.var 9) (.cons (.var 4) .nil)))) .nil)))) .nil))) oC))))
noncomputable def oA:Ss:=(.cons (.ite (.cmp .eq (.var 3) (.lst .nil)) (.cons (.ret (.cst (.bl true))) .nil) .nil)
 (.cons (.unl 4 5 6 (.comp 1 [3,0] (.one 0) (.rng (.cst (.int 3))) (.sub (.var 1) (.call "_law_pick" (.cons (.var 2) (.cons (.bin .add (.cst (.int 50)) (.var 0)) (.cons (.blt .len (.cons (.var 1) .nil)) .nil))))))) oB))
theorem vX:bY.body=.cons (.set 1 (.call "_law_floor" (.cons (.var 0) (.cons (.cst (.int 0)) (.cons (.cst (.int 5)) .nil))))) (.cons (.set 2 (.call "_law_walker" (.cons (.var 0) (.cons (.cst (.int 40)) .nil)))) (.cons (.set 3 (.call "_law_spots" (.cons (.var 1) .nil))) oA)):=rfl
theorem AZ(F:aV)(hp:jV F)(BM:∀ns,∃rows w,Fl rows w∧F "_law_floor" [eY ns,.int 0,.int 5]=.ok (fl rows))(NB:∀ns,∃sl cl pr,Wk cl pr∧F "_law_walker" [eY ns,.int 40]=.ok (wk sl cl pr))(Dl:uz F)(hd:kG F)(hl:je F)(hs:jw F)(dm:Ct F)(OE:FP F)(ns:List Int):af F bY [eY ns]=.ok (.bl true):=by
 obtain⟨rows,w,L,e1⟩:=BM ns
 obtain⟨sl,cl,pr,V,e2⟩:=NB ns
 obtain⟨Sp,e3,nd,l36,hm⟩:=Dl rows L.rok
 have q0:fG (.lst (Sp.map rN)) (.lst [])=.ok (.bl (decide (Sp=[]))):=by
  have eS:Sp.map rN=(Sp.map fun p=>[(p.1:Int),(p.2:Int)]).map aq:=by rw [List.map_map];rfl
  rw [eS];refine(Mq _ []).trans ?_;simp
 have st:aa bY [eY ns]=[.val (eY ns),.no,.no,.no,.no,.no,.no,.no,.no,.no,.no,.no,.no,.no,.no,.no]:=rfl
 have ar:ae bY [eY ns]=true:=rfl
 unfold af;rw [ar,if_pos rfl,st,vX]
 by_cases h2:Sp=[]
 ·rw [decide_eq_true h2] at q0;simp only [oA,ah,aL,az,au,J,J2,reduceIte,e1,e2,e3,q0]
 ·rw [decide_eq_false h2] at q0;have OM:=List.length_pos_iff.2 h2
  obtain⟨m0,p0,a0,b0⟩:=hp ns (50+0) Sp.length (by decide) (by omega)
  obtain⟨m1,p1,a1,b1⟩:=hp ns (50+1) Sp.length (by decide) (by omega)
  obtain⟨m2,p2,a2,b2⟩:=hp ns (50+2) Sp.length (by decide) (by omega)
  obtain⟨y,py,y0,y3⟩:=hp ns 53 3 (by decide) (by decide)
  obtain⟨r,c,g0,ho⟩:=oq hm a0 b0
  obtain⟨r',c',g1,eN⟩:=oq hm a1 b1
  obtain⟨a,b,g2,zM⟩:=oq hm a2 b2
  obtain⟨x0,kd,vd,d0,d0',D⟩:=hd rows w L sl cl pr V r c ho
  obtain⟨x1,kb,vb,d1,d1',B⟩:=hd rows w L sl cl pr V r' c' eN
  obtain⟨bb,w',et,L',T⟩:=OE rows w L y y0 y3
  have es:=dm rows w L y y0 y3 r c
  have oT:bt bb (gT y rows.length w r c).1 (gT y rows.length w r c).2=true:=by rw [T.op];exact ho
  obtain⟨x2,kt,vt,d2,d2',D'⟩:=hd bb w' L' sl cl pr V _ _ oT
  have wy:F "_law_turned_spot" [fl rows,.int y,sp r c]=.ok (sp (gT y rows.length w r c).1 (gT y rows.length w r c).2):=es
  obtain⟨kx,vx,ex,nx⟩:=yM T ho D D'
  have tc:=yH F dm L y0 y3 ho D
  have l1:kd.length<dF:=Nat.lt_of_le_of_lt D.le (by decide)
  have s3:aP 3=true:=by decide
  have rg:dw 0 (3:Int).toNat=[.int 0,.int 1,.int 2]:=rfl
  have l3:(3:Nat)<dF:=by decide
  have F2:=Ic F L V (ns:=ns) (sps:=.lst (Sp.map rN)) (y:=.int y) (z:=.dct kt vt) hs hd hl ho eN zM D B .no .no .no .no .no
  have NS:∀(p:PV) (l:List PV),oc (some p) l=p::l:=fun _ _=>rfl
  have cN:c7 .neD=iS:=rfl
  have eC:ah F oC (En ns rows sl cl pr (.lst (Sp.map rN)) r c r' c' a b kd vd kb vb (.int y) (.dct kt vt) .no .no .no .no .no)=.ok (.rt (.bl true)):=by
   simp only [oC,af,aa,ae,ah,aL,az,au,aS,aQ,aw,ay,ax,reduceIte,J,J2,O6,zzl,l1];rw [cO (p:=aq) (g:=fun k=>.tup [aq (gL y rows.length w k),(ai kd vd k).getD .non]) (fun k hk=>by
    obtain⟨u1,u2⟩:=tc k hk
    simp only [af,aa,ae,ah,aL,az,au,aS,aQ,aw,ay,ax,reduceIte,J,J2,u1,u2])]
   simp only [af,aa,ae,ah,aL,az,au,aS,aQ,aw,ay,ax,reduceIte,J,J2,ex,cN,nx,F2]
  have eB:ah F oB [.val (eY ns),.val (fl rows),.val (wk sl cl pr),.val (.lst (Sp.map rN)),.val (sp r c),.val (sp r' c'),.val (sp a b),.no,.no,.no,.no,.no,.no,.no,.no,.no]=.ok (.rt (.bl true)):=by
   simp only [oB,af,aa,ae,ah,aL,az,au,aS,aQ,aw,ay,ax,reduceIte,J,J2,d0,d0',d1,d1',py,et,wy,d2,d2',eC]
  have eA:ah F oA [.val (eY ns),.val (fl rows),.val (wk sl cl pr),.val (.lst (Sp.map rN)),.no,.no,.no,.no,.no,.no,.no,.no,.no,.no,.no,.no]=.ok (.rt (.bl true)):=by
   simp only [oA,af,aa,ae,ah,aL,az,au,aS,aQ,aw,ay,ax,reduceIte,J,J2,q0,s3,rg,List.length_cons,List.length_nil,l3,zzl,bp,p0,p1,p2,g0,g1,g2,NS,eB]
  simp only [af,aa,ae,ah,aL,az,au,aS,aQ,aw,ay,ax,reduceIte,J,J2,e1,e2,e3,eA]
theorem Im(ns:List Int)(hl:ns.length≤63):af (den Mn) d_law [eY ns]=.ok (.bl true):=by
 have pick:∀F:aV,F "_law_pick"=af (den T1) bT→jV F:=fun F hF ns k q hk hq=>by
  rw [hF];exact Ca (den T1) (fun ns k hk=>by rw [Hr];exact B9 _ ns k hk) ns k q hk hq
 have xM:∀F:aV,F "is_open"=af (den T8) cG→rq F:=fun F hF rows R r c=>by
  rw [hF];exact BC _ (fun r c=>by rw [HX];exact qI _ (fun i=>by rw [Jc];exact ny _ i) r c) (fun rows R r c=>by rw [HF];exact GV _ rows R r c) rows R r c
 have qd:∀F:aV,F "need_open"=af (den T9) bw→j5 F:=fun F hF rows R r c h=>by
  rw [hF];exact mW _ (xM _ IQ) rows R r c h
 have step:∀F:aV,F "step_cost"=af (den Ef) bx→rL F:=fun F hF rows w L sl cl pr V r c r' c' h h'=>by
  rw [hF];exact Al _ (fun r c r' c'=>by rw [Ag];exact wc _ r c r' c') (fun rows R r c r' c'=>by rw [zZ];exact rM _ (xM _ Ec) R r c r' c') (fun rows w L r c h=>by rw [Co];exact uP _ (qd _ zT) L h) L V h h'
 have NG:C6 (den Df):=fun rows R r c a b d e=>by
  rw [BW];exact EC _ (xM _ Dz) R a b d e
 have steps:∀F:aV,F "steps_from"=af (den Df) bM→g9 F:=fun F hF=>by
  unfold g9;rw [hF];exact yi _ (qd _ Cg) NG (step _ Ax)
 have BL:oh (den Ji):=by
  unfold oh;rw [A0];exact rf _ (steps _ Bl) (step _ Bp)
 have Kk:Fn (den Hq):=by
  unfold Fn;rw [A5];exact Bx _ BL
 have JK:DU (den HQ):=by
  unfold DU;rw [Bu];exact Bs _ (steps _ BD)
 have dist:kG (den tG):=by
  unfold kG;rw [Bo];exact zU _ (by unfold xj;rw [zR];exact Ai _ (qd _ BG) JK) (fun E s kr Vr R=>by rw [Aq];exact vP _ R)
 have least:je (den tG):=by
  unfold je;rw [Bi];exact xa _ (qd _ Ad) (fun rows w L sl cl pr V r c h=>by rw [B4];exact pH _ (qd _ zW) Kk L V h) (fun E s kr Vr R hE k q hq=>by rw [Ae];exact uY _ R hE hq)
 have FR:g7 (den HP):=by
  unfold g7;rw [BU];exact uL _ (fun rows w L sl cl pr V r c r' c' h h' hf=>by rw [Bm];exact qM _ L V h h' hf)
 have sum:jw (den tG):=by
  unfold jw;rw [Ah];exact Ee _ (fun rows R=>by rw [EJ];exact pP _ rows R) FR
 refine Dy _ (fun ns=>?_) ns hl;rw [AG];exact AZ _ (pick _ E9) (fun ns=>by rw [F7];exact uK _ (pick _ GU) ns 5 (by decide) (by decide)) (fun ns=>by rw [D2];exact uW _ (pick _ HM) ns 40 (by decide)) (fun rows R=>by rw [Dr];exact pP _ rows R) dist least sum (fun rows w L y h0 h3 r c=>by rw [B2];exact Bb _ L h0 h3 r c) (fun rows w L y h0 h3=>by rw [Ak];exact u0 _ L h0 h3) ns
end K12
namespace Hd
open PySem PySem.W L2
noncomputable abbrev fo(n:Str)(st:Stmt)(pm:Value)(c:Addr):Obj:=⟨.type "function",none,.func (fnOf n n (defArgs st) (defBody st) (defScope st) .none .none .none pm none (.ref c) .none),#[]⟩
def dpos(s:Stmt):Pos:=match s with
 |.FunctionDef _ _ _ _ _ _ _ _ _ p=>p
 |_=>⟨0,0,0,0⟩
theorem ent{K:Frag}{ts:List (Addr×Str)}{n:Str}{st:Stmt}(f c:Addr)(pm:Value)(a:nsIn K mainGlobals n=some (some (.ref f)):=by kernel_rfl)(l:K.lookup f=some (fo n st pm c):=by kernel_rfl)(d:codeIn K (.ref c) n=true:=by kernel_rfl)(k:keepIn K (.ref f)=true:=by kernel_rfl):Ci.EntK K ts false n st:=Ci.entK a l d k
theorem entL{K:Frag}{ts:List (Addr×Str)}{n:Str}{st:Stmt}(f c p:Addr)(pm:Value)(ck:Ci.CodeK K c p)(m:(p,Ci.lamQ n)∈ts)(u:∀q∈ts,q.1=p→q.2=Ci.lamQ n)(a:nsIn K mainGlobals n=some (some (.ref f)):=by kernel_rfl)(l:K.lookup f=some (fo n st pm c):=by kernel_rfl)(d:codeIn K (.ref c) n=true:=by kernel_rfl)(k:keepIn K (.ref f)=true:=by kernel_rfl):Ci.EntK K ts true n st:=⟨f,_,_,_,_,_,_,_,_,_,a,l,d,k,fun _=>⟨c,p,rfl,ck,m,fun q' h=>u _ h rfl⟩⟩
theorem look_app{K L:Frag}{b:Addr}{o:Obj}(e:K.lookup b=some o):(K++L).lookup b=some o:=by
 rw [List.lookup_append,e]
 rfl
end Hd
namespace K12
open PySem L2 Ci
abbrev lw:=PySem.Challenge.rw_cellways_k12_whole_alike
def top(i:Nat):Stmt:=PySem.Challenge.pw_cellways_k12_whole_alike.main.body.getD i (.Pass ⟨0,0,0,0⟩)
noncomputable def K(P:Params):PySem.W.Frag:=[(2,{cls:=.none,data:=.dict #[]}),
 (3,{cls:=.type "dict",data:=.dict #[Hd.de P "__name__" 165 (.str "law_cellways_k12_whole_alike" 411),Hd.de P "__doc__" 166 (.none),Hd.de P "__package__" 167 (.none),Hd.de P "__loader__" 168 (.builtin "__main__.__loader__#opaque"),Hd.de P "__spec__" 169 (.none),Hd.de P "__annotations__" 170 (.ref 6),Hd.de P "__builtins__" 171 (.ref 4),Hd.de P "__file__" 173 (.str "/claim/cut.py" 172),Hd.de P "__cached__" 174 (.none),Hd.de P "FloorError" 206 (.ref 24),Hd.de P "NoSpot" 222 (.ref 37),Hd.de P "WALL" 226 (.str "#" 225),Hd.de P "STRAIGHT_COST" 228 (.int 2 227),Hd.de P "SLANTING_COST" 230 (.int 3 229),Hd.de P "is_whole" 237 (.ref 46),Hd.de P "is_spot" 244 (.ref 53),Hd.de P "is_on_floor" 252 (.ref 60),Hd.de P "is_open" 260 (.ref 67),Hd.de P "need_open" 268 (.ref 74),Hd.de P "height_at" 276 (.ref 81),Hd.de P "open_spots_beside" 287 (.ref 88),Hd.de P "are_beside" 295 (.ref 95),Hd.de P "has_open_corners" 304 (.ref 102),Hd.de P "step_cost" 317 (.ref 109),Hd.de P "steps_from" 329 (.ref 116),Hd.de P "steps_to" 335 (.ref 121),Hd.de P "spread" 352 (.ref 128),Hd.de P "spread_from" 363 (.ref 135),Hd.de P "spread_to" 375 (.ref 142),Hd.de P "rising_costs" 381 (.ref 147),Hd.de P "distances_from" 390 (.ref 154),Hd.de P "traced" 399 (.ref 161),Hd.de P "least_way" 410 (.ref 168),Hd.de P "_law_cell" 420 (.ref 175),Hd.de P "_law_pick" 430 (.ref 182),Hd.de P "_law_floor" 448 (.ref 189),Hd.de P "_law_walker" 456 (.ref 196),Hd.de P "_law_spots" 462 (.ref 201),Hd.de P "_law_cost" 474 (.ref 208),Hd.de P "_law_steps" 488 (.ref 215),Hd.de P "_law_sum" 494 (.ref 220),Hd.de P "_law_turned_floor" 500 (.ref 225),Hd.de P "_law_turned_spot" 509 (.ref 232),Hd.de P "_law_once" 515 (.ref 237),Hd.de P "law" 521 (.ref 242)] 45}),
 (4,{cls:=.type "module",dict:=some builtinsNs,data:=.plain}),
 (23,{cls:=.type "dict",data:=.dict #[Hd.de P "__module__" 196 (.str "cellways.errors" 187),Hd.de P "__firstlineno__" 200 (.int 2 199),Hd.de P "__static_attributes__" 201 (.ref 22),Hd.de P "__weakref__" 203 (.ref 25),Hd.de P "__doc__" 204 (.none)] 3}),
 (24,{cls:=.type "type",data:=.cls {name:="FloorError",bases:=[.type "ValueError"],mro:=[.ref 24,.type "ValueError",.type "Exception",.type "BaseException",.type "object"],ns:=23,qualname:="FloorError",subclasses:=[.ref 37]},slots:=#[some (.ref 15),none,some (.str "FloorError" 189),some (.str "FloorError" 197),some (.builtin "ValueError.__new__"),some (.bool Bool.true)]}),
 (36,{cls:=.type "dict",data:=.dict #[Hd.de P "__module__" 214 (.str "cellways.errors" 187),Hd.de P "__firstlineno__" 218 (.int 4 217),Hd.de P "__static_attributes__" 219 (.ref 35),Hd.de P "__doc__" 220 (.none)] 2}),
 (37,{cls:=.type "type",data:=.cls {name:="NoSpot",bases:=[.ref 24],mro:=[.ref 37,.ref 24,.type "ValueError",.type "Exception",.type "BaseException",.type "object"],ns:=36,qualname:="NoSpot"},slots:=#[some (.ref 28),none,some (.str "NoSpot" 207),some (.str "NoSpot" 215),some (.builtin "ValueError.__new__"),some (.bool Bool.true)]}),
 (45,{cls:=.type "code",data:=.fields #[.str "is_whole" 231,.str "is_whole" 232,.str "/claim/cut.py" 233,.int 10 0,.int 1 0,.int 0 0,.int 0 0,.int 3 0,.ref 40,.bool Bool.true,.int 181 0,.ref 41,.none,.ref 42,.ref 43,.ref 44,.int 235 0,.int 10 0,.str "/claim/cut.py" 236]}),
 (46,Hd.fo "is_whole" (top 7) (.str "cellways.floors" 223) 45),
 (52,{cls:=.type "code",data:=.fields #[.str "is_spot" 238,.str "is_spot" 239,.str "/claim/cut.py" 240,.int 12 0,.int 1 0,.int 0 0,.int 0 0,.int 3 0,.ref 47,.bool Bool.true,.int 181 0,.ref 48,.none,.ref 49,.ref 50,.ref 51,.int 242 0,.int 12 0,.str "/claim/cut.py" 243]}),
 (53,Hd.fo "is_spot" (top 8) (.str "cellways.floors" 223) 52),
 (59,{cls:=.type "code",data:=.fields #[.str "is_on_floor" 245,.str "is_on_floor" 246,.str "/claim/cut.py" 247,.int 14 0,.int 2 0,.int 0 0,.int 0 0,.int 3 0,.ref 54,.bool Bool.true,.int 181 0,.ref 55,.none,.ref 56,.ref 57,.ref 58,.int 250 0,.int 14 0,.str "/claim/cut.py" 251]}),
 (60,Hd.fo "is_on_floor" (top 9) (.str "cellways.floors" 223) 59),
 (66,{cls:=.type "code",data:=.fields #[.str "is_open" 253,.str "is_open" 254,.str "/claim/cut.py" 255,.int 16 0,.int 2 0,.int 0 0,.int 0 0,.int 3 0,.ref 61,.bool Bool.true,.int 181 0,.ref 62,.none,.ref 63,.ref 64,.ref 65,.int 258 0,.int 16 0,.str "/claim/cut.py" 259]}),
 (67,Hd.fo "is_open" (top 10) (.str "cellways.floors" 223) 66),
 (73,{cls:=.type "code",data:=.fields #[.str "need_open" 261,.str "need_open" 262,.str "/claim/cut.py" 263,.int 18 0,.int 2 0,.int 0 0,.int 0 0,.int 3 0,.ref 68,.bool Bool.true,.int 181 0,.ref 69,.none,.ref 70,.ref 71,.ref 72,.int 266 0,.int 18 0,.str "/claim/cut.py" 267]}),
 (74,Hd.fo "need_open" (top 11) (.str "cellways.floors" 223) 73),
 (80,{cls:=.type "code",data:=.fields #[.str "height_at" 269,.str "height_at" 270,.str "/claim/cut.py" 271,.int 21 0,.int 2 0,.int 0 0,.int 0 0,.int 3 0,.ref 75,.bool Bool.true,.int 181 0,.ref 76,.none,.ref 77,.ref 78,.ref 79,.int 274 0,.int 21 0,.str "/claim/cut.py" 275]}),
 (81,Hd.fo "height_at" (top 12) (.str "cellways.floors" 223) 80),
 (87,{cls:=.type "code",data:=.fields #[.str "open_spots_beside" 277,.str "open_spots_beside" 278,.str "/claim/cut.py" 279,.int 24 0,.int 2 0,.int 0 0,.int 0 0,.int 3 0,.ref 82,.bool Bool.true,.int 181 0,.ref 83,.none,.ref 84,.ref 85,.ref 86,.int 285 0,.int 24 0,.str "/claim/cut.py" 286]}),
 (88,Hd.fo "open_spots_beside" (top 13) (.str "cellways.floors" 223) 87),
 (94,{cls:=.type "code",data:=.fields #[.str "are_beside" 288,.str "are_beside" 289,.str "/claim/cut.py" 290,.int 31 0,.int 2 0,.int 0 0,.int 0 0,.int 3 0,.ref 89,.bool Bool.true,.int 181 0,.ref 90,.none,.ref 91,.ref 92,.ref 93,.int 293 0,.int 31 0,.str "/claim/cut.py" 294]}),
 (95,Hd.fo "are_beside" (top 14) (.str "cellways.floors" 223) 94),
 (101,{cls:=.type "code",data:=.fields #[.str "has_open_corners" 296,.str "has_open_corners" 297,.str "/claim/cut.py" 298,.int 33 0,.int 3 0,.int 0 0,.int 0 0,.int 3 0,.ref 96,.bool Bool.true,.int 181 0,.ref 97,.none,.ref 98,.ref 99,.ref 100,.int 302 0,.int 33 0,.str "/claim/cut.py" 303]}),
 (102,Hd.fo "has_open_corners" (top 15) (.str "cellways.floors" 223) 101),
 (108,{cls:=.type "code",data:=.fields #[.str "step_cost" 305,.str "step_cost" 306,.str "/claim/cut.py" 307,.int 35 0,.int 4 0,.int 0 0,.int 0 0,.int 3 0,.ref 103,.bool Bool.true,.int 181 0,.ref 104,.none,.ref 105,.ref 106,.ref 107,.int 315 0,.int 35 0,.str "/claim/cut.py" 316]}),
 (109,Hd.fo "step_cost" (top 16) (.str "cellways.floors" 223) 108),
 (115,{cls:=.type "code",data:=.fields #[.str "steps_from" 318,.str "steps_from" 319,.str "/claim/cut.py" 320,.int 46 0,.int 3 0,.int 0 0,.int 0 0,.int 3 0,.ref 110,.bool Bool.true,.int 181 0,.ref 111,.none,.ref 112,.ref 113,.ref 114,.int 327 0,.int 46 0,.str "/claim/cut.py" 328]}),
 (116,Hd.fo "steps_from" (top 17) (.str "cellways.floors" 223) 115),
 (120,{cls:=.type "code",data:=.fields #[.str "steps_to" 330,.str "steps_to" 331,.str "/claim/cut.py" 332,.int 54 0,.int 3 0,.int 0 0,.int 0 0,.int 3 0,.ref 117,.bool Bool.true,.int 181 0,.ref 118,.none,.none,.none,.ref 119,.int 333 0,.int 54 0,.str "/claim/cut.py" 334]}),
 (121,Hd.fo "steps_to" (top 18) (.str "cellways.floors" 223) 120),
 (127,{cls:=.type "code",data:=.fields #[.str "spread" 338,.str "spread" 339,.str "/claim/cut.py" 340,.int 57 0,.int 2 0,.int 0 0,.int 0 0,.int 3 0,.ref 122,.bool Bool.true,.int 181 0,.ref 123,.none,.ref 124,.ref 125,.ref 126,.int 350 0,.int 57 0,.str "/claim/cut.py" 351]}),
 (128,Hd.fo "spread" (top 20) (.str "cellways.ways" 336) 127),
 (134,{cls:=.type "code",data:=.fields #[.str "spread_from" 353,.str "spread_from" 354,.str "/claim/cut.py" 355,.int 70 0,.int 3 0,.int 0 0,.int 0 0,.int 3 0,.ref 129,.bool Bool.true,.int 181 0,.ref 130,.none,.ref 131,.ref 132,.ref 133,.int 361 0,.int 70 0,.str "/claim/cut.py" 362]}),
 (135,Hd.fo "spread_from" (top 21) (.str "cellways.ways" 336) 134),
 (141,{cls:=.type "code",data:=.fields #[.str "spread_to" 364,.str "spread_to" 365,.str "/claim/cut.py" 366,.int 73 0,.int 3 0,.int 0 0,.int 0 0,.int 3 0,.ref 136,.bool Bool.true,.int 181 0,.ref 137,.none,.ref 138,.ref 139,.ref 140,.int 373 0,.int 73 0,.str "/claim/cut.py" 374]}),
 (142,Hd.fo "spread_to" (top 22) (.str "cellways.ways" 336) 141),
 (146,{cls:=.type "code",data:=.fields #[.str "rising_costs" 376,.str "rising_costs" 377,.str "/claim/cut.py" 378,.int 77 0,.int 1 0,.int 0 0,.int 0 0,.int 3 0,.ref 143,.bool Bool.true,.int 181 0,.ref 144,.none,.none,.none,.ref 145,.int 379 0,.int 77 0,.str "/claim/cut.py" 380]}),
 (147,Hd.fo "rising_costs" (top 23) (.str "cellways.ways" 336) 146),
 (153,{cls:=.type "code",data:=.fields #[.str "distances_from" 382,.str "distances_from" 383,.str "/claim/cut.py" 384,.int 79 0,.int 3 0,.int 0 0,.int 0 0,.int 3 0,.ref 148,.bool Bool.true,.int 181 0,.ref 149,.none,.ref 150,.ref 151,.ref 152,.int 388 0,.int 79 0,.str "/claim/cut.py" 389]}),
 (154,Hd.fo "distances_from" (top 24) (.str "cellways.ways" 336) 153),
 (160,{cls:=.type "code",data:=.fields #[.str "traced" 391,.str "traced" 392,.str "/claim/cut.py" 393,.int 81 0,.int 2 0,.int 0 0,.int 0 0,.int 3 0,.ref 155,.bool Bool.true,.int 181 0,.ref 156,.none,.ref 157,.ref 158,.ref 159,.int 397 0,.int 81 0,.str "/claim/cut.py" 398]}),
 (161,Hd.fo "traced" (top 25) (.str "cellways.ways" 336) 160),
 (167,{cls:=.type "code",data:=.fields #[.str "least_way" 400,.str "least_way" 401,.str "/claim/cut.py" 402,.int 86 0,.int 4 0,.int 0 0,.int 0 0,.int 3 0,.ref 162,.bool Bool.true,.int 181 0,.ref 163,.none,.ref 164,.ref 165,.ref 166,.int 408 0,.int 86 0,.str "/claim/cut.py" 409]}),
 (168,Hd.fo "least_way" (top 26) (.str "cellways.ways" 336) 167),
 (174,{cls:=.type "code",data:=.fields #[.str "_law_cell" 413,.str "_law_cell" 414,.str "/claim/cut.py" 415,.int 93 0,.int 2 0,.int 0 0,.int 0 0,.int 3 0,.ref 169,.bool Bool.true,.int 181 0,.ref 170,.none,.ref 171,.ref 172,.ref 173,.int 418 0,.int 93 0,.str "/claim/cut.py" 419]}),
 (175,Hd.fo "_law_cell" (top 28) (.str "law_cellways_k12_whole_alike" 411) 174),
 (181,{cls:=.type "code",data:=.fields #[.str "_law_pick" 421,.str "_law_pick" 422,.str "/claim/cut.py" 423,.int 99 0,.int 3 0,.int 0 0,.int 0 0,.int 3 0,.ref 176,.bool Bool.true,.int 181 0,.ref 177,.none,.ref 178,.ref 179,.ref 180,.int 428 0,.int 99 0,.str "/claim/cut.py" 429]}),
 (182,Hd.fo "_law_pick" (top 29) (.str "law_cellways_k12_whole_alike" 411) 181),
 (188,{cls:=.type "code",data:=.fields #[.str "_law_floor" 431,.str "_law_floor" 432,.str "/claim/cut.py" 433,.int 102 0,.int 3 0,.int 0 0,.int 0 0,.int 3 0,.ref 183,.bool Bool.true,.int 181 0,.ref 184,.none,.ref 185,.ref 186,.ref 187,.int 446 0,.int 102 0,.str "/claim/cut.py" 447]}),
 (189,Hd.fo "_law_floor" (top 30) (.str "law_cellways_k12_whole_alike" 411) 188),
 (195,{cls:=.type "code",data:=.fields #[.str "_law_walker" 449,.str "_law_walker" 450,.str "/claim/cut.py" 451,.int 115 0,.int 2 0,.int 0 0,.int 0 0,.int 3 0,.ref 190,.bool Bool.true,.int 181 0,.ref 191,.none,.ref 192,.ref 193,.ref 194,.int 454 0,.int 115 0,.str "/claim/cut.py" 455]}),
 (196,Hd.fo "_law_walker" (top 31) (.str "law_cellways_k12_whole_alike" 411) 195),
 (200,{cls:=.type "code",data:=.fields #[.str "_law_spots" 457,.str "_law_spots" 458,.str "/claim/cut.py" 459,.int 117 0,.int 1 0,.int 0 0,.int 0 0,.int 3 0,.ref 197,.bool Bool.true,.int 181 0,.ref 198,.none,.none,.none,.ref 199,.int 460 0,.int 117 0,.str "/claim/cut.py" 461]}),
 (201,Hd.fo "_law_spots" (top 32) (.str "law_cellways_k12_whole_alike" 411) 200),
 (207,{cls:=.type "code",data:=.fields #[.str "_law_cost" 463,.str "_law_cost" 464,.str "/claim/cut.py" 465,.int 122 0,.int 4 0,.int 0 0,.int 0 0,.int 3 0,.ref 202,.bool Bool.true,.int 181 0,.ref 203,.none,.ref 204,.ref 205,.ref 206,.int 472 0,.int 122 0,.str "/claim/cut.py" 473]}),
 (208,Hd.fo "_law_cost" (top 33) (.str "law_cellways_k12_whole_alike" 411) 207),
 (214,{cls:=.type "code",data:=.fields #[.str "_law_steps" 475,.str "_law_steps" 476,.str "/claim/cut.py" 477,.int 132 0,.int 3 0,.int 0 0,.int 0 0,.int 3 0,.ref 209,.bool Bool.true,.int 181 0,.ref 210,.none,.ref 211,.ref 212,.ref 213,.int 486 0,.int 132 0,.str "/claim/cut.py" 487]}),
 (215,Hd.fo "_law_steps" (top 34) (.str "law_cellways_k12_whole_alike" 411) 214),
 (219,{cls:=.type "code",data:=.fields #[.str "_law_sum" 489,.str "_law_sum" 490,.str "/claim/cut.py" 491,.int 142 0,.int 3 0,.int 0 0,.int 0 0,.int 3 0,.ref 216,.bool Bool.true,.int 181 0,.ref 217,.none,.none,.none,.ref 218,.int 492 0,.int 142 0,.str "/claim/cut.py" 493]}),
 (220,Hd.fo "_law_sum" (top 35) (.str "law_cellways_k12_whole_alike" 411) 219),
 (224,{cls:=.type "code",data:=.fields #[.str "_law_turned_floor" 495,.str "_law_turned_floor" 496,.str "/claim/cut.py" 497,.int 153 0,.int 2 0,.int 0 0,.int 0 0,.int 3 0,.ref 221,.bool Bool.true,.int 181 0,.ref 222,.none,.none,.none,.ref 223,.int 498 0,.int 153 0,.str "/claim/cut.py" 499]}),
 (225,Hd.fo "_law_turned_floor" (top 36) (.str "law_cellways_k12_whole_alike" 411) 224),
 (231,{cls:=.type "code",data:=.fields #[.str "_law_turned_spot" 501,.str "_law_turned_spot" 502,.str "/claim/cut.py" 503,.int 159 0,.int 3 0,.int 0 0,.int 0 0,.int 3 0,.ref 226,.bool Bool.true,.int 181 0,.ref 227,.none,.ref 228,.ref 229,.ref 230,.int 507 0,.int 159 0,.str "/claim/cut.py" 508]}),
 (232,Hd.fo "_law_turned_spot" (top 37) (.str "law_cellways_k12_whole_alike" 411) 231),
 (236,{cls:=.type "code",data:=.fields #[.str "_law_once" 510,.str "_law_once" 511,.str "/claim/cut.py" 512,.int 165 0,.int 1 0,.int 0 0,.int 0 0,.int 3 0,.ref 233,.bool Bool.true,.int 181 0,.ref 234,.none,.none,.none,.ref 235,.int 513 0,.int 165 0,.str "/claim/cut.py" 514]}),
 (237,Hd.fo "_law_once" (top 38) (.str "law_cellways_k12_whole_alike" 411) 236),
 (241,{cls:=.type "code",data:=.fields #[.str "law" 516,.str "law" 517,.str "/claim/cut.py" 518,.int 193 0,.int 1 0,.int 0 0,.int 0 0,.int 3 0,.ref 238,.bool Bool.true,.int 181 0,.ref 239,.none,.none,.none,.ref 240,.int 519 0,.int 193 0,.str "/claim/cut.py" 520]}),
 (242,Hd.fo "law" (top 39) (.str "law_cellways_k12_whole_alike" 411) 241)]
def ts:List (Addr×Str):=[(123,lamQ "spread"),(137,lamQ "spread_to"),(130,lamQ "spread_from")]
noncomputable def K2(P:Params):PySem.W.Frag:=K P++[(123,PySem.W.tabObj #[]),(137,PySem.W.tabObj #[]),(130,PySem.W.tabObj #[])]
noncomputable def as:List Addr:=[2,3,4,23,24,36,37,45,46,52,53,59,60,66,67,73,74,80,81,87,88,94,95,101,102,108,109,115,116,120,121,127,128,134,135,141,142,146,147,153,154,160,161,167,168,174,175,181,182,188,189,195,196,200,201,207,208,214,215,219,220,224,225,231,232,236,237,241,242,123,137,130]
noncomputable def Γ:Pg:=⟨[("WALL",(.str "#")),("STRAIGHT_COST",(.int 2)),("SLANTING_COST",(.int 3))],["len","abs","max","min","int","str","list","tuple","isinstance","bool","range","enumerate","sorted","dict"],[],[],["NoSpot"],[],false⟩
def R0:d5:=[]
theorem nR:cx (Γ.at R0 false) "_law_cell" cQ (top 28):=stM fun _ _ _ _ _ _=>Hd.ar2 fun _ _=>rfl
noncomputable def R1:d5:=⟨"_law_cell","_law_cell",cQ,top 28,false⟩::R0
theorem mM:cx (Γ.at R1 false) "_law_pick" bT (top 29):=stM fun _ _ _ _ _ _=>Hd.ar3 fun _ _ _=>rfl
noncomputable def R2:d5:=⟨"_law_pick","_law_pick",bT,top 29,false⟩::R1
theorem kW:cx (Γ.at R2 false) "_law_floor" bZ (top 30):=stM fun _ _ _ _ _ _=>Hd.ar3 fun _ _ _=>rfl
noncomputable def R3:d5:=⟨"_law_floor","_law_floor",bZ,top 30,false⟩::R2
theorem jz:cx (Γ.at R3 false) "_law_walker" cg (top 31):=stM fun _ _ _ _ _ _=>Hd.ar2 fun _ _=>rfl
noncomputable def R4:d5:=⟨"_law_walker","_law_walker",cg,top 31,false⟩::R3
theorem lF:cx (Γ.at R4 false) "_law_spots" b9 (top 32):=stM fun _ _ _ _ _ _=>Hd.ar1 fun _=>rfl
noncomputable def R5:d5:=⟨"_law_spots","_law_spots",b9,top 32,false⟩::R4
theorem oY:cx (Γ.at R5 false) "is_whole" dE (top 7):=stM fun _ _ _ _ _ _=>Hd.ar1 fun _=>rfl
noncomputable def R6:d5:=⟨"is_whole","is_whole",dE,top 7,false⟩::R5
theorem qG:cx (Γ.at R6 false) "is_spot" dz (top 8):=stM fun _ _ _ _ _ _=>Hd.ar1 fun _=>rfl
noncomputable def R7:d5:=⟨"is_spot","is_spot",dz,top 8,false⟩::R6
theorem jl:cx (Γ.at R7 false) "is_on_floor" cb (top 9):=stM fun _ _ _ _ _ _=>Hd.ar2 fun _ _=>rfl
noncomputable def R8:d5:=⟨"is_on_floor","is_on_floor",cb,top 9,false⟩::R7
theorem rP:cx (Γ.at R8 false) "is_open" cG (top 10):=stM fun _ _ _ _ _ _=>Hd.ar2 fun _ _=>rfl
noncomputable def R9:d5:=⟨"is_open","is_open",cG,top 10,false⟩::R8
theorem nv:cx (Γ.at R9 false) "need_open" bw (top 11):=stM fun _ _ _ _ _ _=>Hd.ar2 fun _ _=>rfl
noncomputable def L1:d5:=⟨"need_open","need_open",bw,top 11,false⟩::R9
theorem lj:cx (Γ.at L1 false) "are_beside" cH (top 14):=stM fun _ _ _ _ _ _=>Hd.ar2 fun _ _=>rfl
noncomputable def MI:d5:=⟨"are_beside","are_beside",cH,top 14,false⟩::L1
theorem n8:cx (Γ.at MI false) "height_at" cM (top 12):=stM fun _ _ _ _ _ _=>Hd.ar2 fun _ _=>rfl
noncomputable def M8:d5:=⟨"height_at","height_at",cM,top 12,false⟩::MI
theorem gh:cx (Γ.at M8 false) "has_open_corners" br (top 15):=stM fun _ _ _ _ _ _=>Hd.ar3 fun _ _ _=>rfl
noncomputable def L5:d5:=⟨"has_open_corners","has_open_corners",br,top 15,false⟩::M8
theorem nE:cx (Γ.at L5 false) "step_cost" bx (top 16):=stM fun _ _ _ _ _ _=>Hd.ar4 fun _ _ _ _=>rfl
noncomputable def M0:d5:=⟨"step_cost","step_cost",bx,top 16,false⟩::L5
theorem fN:cx (Γ.at M0 false) "open_spots_beside" bj (top 13):=stM fun _ _ _ _ _ _=>Hd.ar2 fun _ _=>rfl
noncomputable def MA:d5:=⟨"open_spots_beside","open_spots_beside",bj,top 13,false⟩::M0
theorem lH:cx (Γ.at MA false) "steps_from" bM (top 17):=stM fun _ _ _ _ _ _=>Hd.ar3 fun _ _ _=>rfl
noncomputable def Mj:d5:=⟨"steps_from","steps_from",bM,top 17,false⟩::MA
theorem qz:cx (Γ.at Mj false) "steps_to" dg (top 18):=stM fun _ _ _ _ _ _=>Hd.ar3 fun _ _ _=>rfl
noncomputable def Mx:d5:=⟨"steps_to","steps_to",dg,top 18,false⟩::Mj
theorem fe:cx (Γ.at Mx true) "spread" bz (top 20):=stM fun _ _ _ _ _ _=>Hd.ar2 fun _ _=>rfl
noncomputable def Ml:d5:=⟨"spread@steps_to","spread",bz,top 20,true⟩::Mx
theorem nc:cx (Γ.at Ml true) "spread_to" cR (top 22):=stM fun _ _ _ _ _ _=>Hd.ar3 fun _ _ _=>rfl
noncomputable def MM:d5:=⟨"spread_to","spread_to",cR,top 22,true⟩::Ml
theorem uS:cx (Γ.at MM false) "traced" ez (top 25):=stM fun _ _ _ _ _ _=>Hd.ar2 fun _ _=>rfl
noncomputable def Me:d5:=⟨"traced","traced",ez,top 25,false⟩::MM
theorem mK:cx (Γ.at Me false) "least_way" cE (top 26):=stM fun _ _ _ _ _ _=>Hd.ar4 fun _ _ _ _=>rfl
noncomputable def M9:d5:=⟨"least_way","least_way",cE,top 26,false⟩::Me
theorem iW:cx (Γ.at M9 false) "rising_costs" bX (top 23):=stM fun _ _ _ _ _ _=>Hd.ar1 fun _=>rfl
noncomputable def MV:d5:=⟨"rising_costs","rising_costs",bX,top 23,false⟩::M9
theorem eE:cx (Γ.at MV true) "spread" bh (top 20):=stM fun _ _ _ _ _ _=>Hd.ar2 fun _ _=>rfl
noncomputable def L3:d5:=⟨"spread@steps_from","spread",bh,top 20,true⟩::MV
theorem kH:cx (Γ.at L3 true) "spread_from" cj (top 21):=stM fun _ _ _ _ _ _=>Hd.ar3 fun _ _ _=>rfl
noncomputable def MC:d5:=⟨"spread_from","spread_from",cj,top 21,true⟩::L3
theorem ij:cx (Γ.at MC false) "distances_from" bH (top 24):=stM fun _ _ _ _ _ _=>Hd.ar3 fun _ _ _=>rfl
noncomputable def M5:d5:=⟨"distances_from","distances_from",bH,top 24,false⟩::MC
theorem fC:cx (Γ.at M5 false) "_law_turned_floor" aN (top 36):=stM fun _ _ _ _ _ _=>Hd.ar2 fun _ _=>rfl
noncomputable def ME:d5:=⟨"_law_turned_floor","_law_turned_floor",aN,top 36,false⟩::M5
theorem gf:cx (Γ.at ME false) "_law_turned_spot" aR (top 37):=stM fun _ _ _ _ _ _=>Hd.ar3 fun _ _ _=>rfl
noncomputable def ML:d5:=⟨"_law_turned_spot","_law_turned_spot",aR,top 37,false⟩::ME
theorem oj:cx (Γ.at ML false) "_law_cost" bQ (top 33):=stM fun _ _ _ _ _ _=>Hd.ar4 fun _ _ _ _=>rfl
noncomputable def Mz:d5:=⟨"_law_cost","_law_cost",bQ,top 33,false⟩::ML
theorem lA:cx (Γ.at Mz false) "_law_steps" bO (top 34):=stM fun _ _ _ _ _ _=>Hd.ar3 fun _ _ _=>rfl
noncomputable def Mg:d5:=⟨"_law_steps","_law_steps",bO,top 34,false⟩::Mz
theorem p8:cx (Γ.at Mg false) "_law_sum" cA (top 35):=stM fun _ _ _ _ _ _=>Hd.ar3 fun _ _ _=>rfl
noncomputable def Mb:d5:=⟨"_law_sum","_law_sum",cA,top 35,false⟩::Mg
theorem oe:cx (Γ.at Mb false) "_law_once" bY (top 38):=stM fun _ _ _ _ _ _=>Hd.ar1 fun _=>rfl
noncomputable def R31:d5:=⟨"_law_once","_law_once",bY,top 38,false⟩::Mb
theorem st_law:cx (Γ.at R31 false) "law" d_law (top 39):=stM fun _ _ _ _ _ _=>Hd.ar1 fun _=>rfl
theorem iK(P:Params):CodeK (K P) 127 123:=⟨⟨.type "code",none,.fields #[.str "spread" 338,.str "spread" 339,.str "/claim/cut.py" 340,.int 57 0,.int 2 0,.int 0 0,.int 0 0,.int 3 0,.ref 122,.bool Bool.true,.int 181 0,.ref 123,.none,.ref 124,.ref 125,.ref 126,.int 350 0,.int 57 0,.str "/claim/cut.py" 351],#[]⟩,_,_,_,_,_,_,_,_,by kernel_rfl,rfl,rfl,rfl,rfl,rfl,rfl,rfl,rfl,by decide⟩
theorem g8(P:Params):CodeK (K P) 141 137:=⟨⟨.type "code",none,.fields #[.str "spread_to" 364,.str "spread_to" 365,.str "/claim/cut.py" 366,.int 73 0,.int 3 0,.int 0 0,.int 0 0,.int 3 0,.ref 136,.bool Bool.true,.int 181 0,.ref 137,.none,.ref 138,.ref 139,.ref 140,.int 373 0,.int 73 0,.str "/claim/cut.py" 374],#[]⟩,_,_,_,_,_,_,_,_,by kernel_rfl,rfl,rfl,rfl,rfl,rfl,rfl,rfl,rfl,by decide⟩
theorem fu(P:Params):CodeK (K P) 134 130:=⟨⟨.type "code",none,.fields #[.str "spread_from" 353,.str "spread_from" 354,.str "/claim/cut.py" 355,.int 70 0,.int 3 0,.int 0 0,.int 0 0,.int 3 0,.ref 129,.bool Bool.true,.int 181 0,.ref 130,.none,.ref 131,.ref 132,.ref 133,.int 361 0,.int 70 0,.str "/claim/cut.py" 362],#[]⟩,_,_,_,_,_,_,_,_,by kernel_rfl,rfl,rfl,rfl,rfl,rfl,rfl,rfl,rfl,by decide⟩
theorem hlawT(ns:List Int)(hl:ns.length≤63):af (den (tab R31)) d_law [.lst (ns.map .int)]=.ok (.bl true):=Im ns hl
theorem allK(P:Params):AllK (K P) ts Γ R31:=
 ⟨Hd.ent 237 236 (.str "law_cellways_k12_whole_alike" 411),oe,⟨by decide+kernel,by decide+kernel,fun z=>by first|rfl|exact absurd z (by decide)⟩,⟨Hd.ent 220 219 (.str "law_cellways_k12_whole_alike" 411),p8,⟨by decide+kernel,by decide+kernel,fun z=>by first|rfl|exact absurd z (by decide)⟩,⟨Hd.ent 215 214 (.str "law_cellways_k12_whole_alike" 411),lA,⟨by decide+kernel,by decide+kernel,fun z=>by first|rfl|exact absurd z (by decide)⟩,⟨Hd.ent 208 207 (.str "law_cellways_k12_whole_alike" 411),oj,⟨by decide+kernel,by decide+kernel,fun z=>by first|rfl|exact absurd z (by decide)⟩,⟨Hd.ent 232 231 (.str "law_cellways_k12_whole_alike" 411),gf,⟨by decide+kernel,by decide+kernel,fun z=>by first|rfl|exact absurd z (by decide)⟩,⟨Hd.ent 225 224 (.str "law_cellways_k12_whole_alike" 411),fC,⟨by decide+kernel,by decide+kernel,fun z=>by first|rfl|exact absurd z (by decide)⟩,⟨Hd.ent 154 153 (.str "cellways.ways" 336),ij,⟨by decide+kernel,by decide+kernel,fun z=>by first|rfl|exact absurd z (by decide)⟩,⟨Hd.entL 135 134 130 (.str "cellways.ways" 336) (fu P) (by decide+kernel) (by decide+kernel),kH,⟨by decide+kernel,by decide+kernel,fun z=>by first|rfl|exact absurd z (by decide)⟩,⟨Hd.entL 128 127 123 (.str "cellways.ways" 336) (iK P) (by decide+kernel) (by decide+kernel),eE,⟨by decide+kernel,by decide+kernel,fun z=>by first|rfl|exact absurd z (by decide)⟩,⟨Hd.ent 147 146 (.str "cellways.ways" 336),iW,⟨by decide+kernel,by decide+kernel,fun z=>by first|rfl|exact absurd z (by decide)⟩,⟨Hd.ent 168 167 (.str "cellways.ways" 336),mK,⟨by decide+kernel,by decide+kernel,fun z=>by first|rfl|exact absurd z (by decide)⟩,⟨Hd.ent 161 160 (.str "cellways.ways" 336),uS,⟨by decide+kernel,by decide+kernel,fun z=>by first|rfl|exact absurd z (by decide)⟩,⟨Hd.entL 142 141 137 (.str "cellways.ways" 336) (g8 P) (by decide+kernel) (by decide+kernel),nc,⟨by decide+kernel,by decide+kernel,fun z=>by first|rfl|exact absurd z (by decide)⟩,⟨Hd.entL 128 127 123 (.str "cellways.ways" 336) (iK P) (by decide+kernel) (by decide+kernel),fe,⟨by decide+kernel,by decide+kernel,fun z=>by first|rfl|exact absurd z (by decide)⟩,⟨Hd.ent 121 120 (.str "cellways.floors" 223),qz,⟨by decide+kernel,by decide+kernel,fun z=>by first|rfl|exact absurd z (by decide)⟩,⟨Hd.ent 116 115 (.str "cellways.floors" 223),lH,⟨by decide+kernel,by decide+kernel,fun z=>by first|rfl|exact absurd z (by decide)⟩,⟨Hd.ent 88 87 (.str "cellways.floors" 223),fN,⟨by decide+kernel,by decide+kernel,fun z=>by first|rfl|exact absurd z (by decide)⟩,⟨Hd.ent 109 108 (.str "cellways.floors" 223),nE,⟨by decide+kernel,by decide+kernel,fun z=>by first|rfl|exact absurd z (by decide)⟩,⟨Hd.ent 102 101 (.str "cellways.floors" 223),gh,⟨by decide+kernel,by decide+kernel,fun z=>by first|rfl|exact absurd z (by decide)⟩,⟨Hd.ent 81 80 (.str "cellways.floors" 223),n8,⟨by decide+kernel,by decide+kernel,fun z=>by first|rfl|exact absurd z (by decide)⟩,⟨Hd.ent 95 94 (.str "cellways.floors" 223),lj,⟨by decide+kernel,by decide+kernel,fun z=>by first|rfl|exact absurd z (by decide)⟩,⟨Hd.ent 74 73 (.str "cellways.floors" 223),nv,⟨by decide+kernel,by decide+kernel,fun z=>by first|rfl|exact absurd z (by decide)⟩,⟨Hd.ent 67 66 (.str "cellways.floors" 223),rP,⟨by decide+kernel,by decide+kernel,fun z=>by first|rfl|exact absurd z (by decide)⟩,⟨Hd.ent 60 59 (.str "cellways.floors" 223),jl,⟨by decide+kernel,by decide+kernel,fun z=>by first|rfl|exact absurd z (by decide)⟩,⟨Hd.ent 53 52 (.str "cellways.floors" 223),qG,⟨by decide+kernel,by decide+kernel,fun z=>by first|rfl|exact absurd z (by decide)⟩,⟨Hd.ent 46 45 (.str "cellways.floors" 223),oY,⟨by decide+kernel,by decide+kernel,fun z=>by first|rfl|exact absurd z (by decide)⟩,⟨Hd.ent 201 200 (.str "law_cellways_k12_whole_alike" 411),lF,⟨by decide+kernel,by decide+kernel,fun z=>by first|rfl|exact absurd z (by decide)⟩,⟨Hd.ent 196 195 (.str "law_cellways_k12_whole_alike" 411),jz,⟨by decide+kernel,by decide+kernel,fun z=>by first|rfl|exact absurd z (by decide)⟩,⟨Hd.ent 189 188 (.str "law_cellways_k12_whole_alike" 411),kW,⟨by decide+kernel,by decide+kernel,fun z=>by first|rfl|exact absurd z (by decide)⟩,⟨Hd.ent 182 181 (.str "law_cellways_k12_whole_alike" 411),mM,⟨by decide+kernel,by decide+kernel,fun z=>by first|rfl|exact absurd z (by decide)⟩,⟨Hd.ent 175 174 (.str "law_cellways_k12_whole_alike" 411),nR,⟨by decide+kernel,by decide+kernel,fun z=>by first|rfl|exact absurd z (by decide)⟩,trivial⟩⟩⟩⟩⟩⟩⟩⟩⟩⟩⟩⟩⟩⟩⟩⟩⟩⟩⟩⟩⟩⟩⟩⟩⟩⟩⟩⟩⟩⟩⟩
structure H8(K:PySem.W.Frag)(d:Str)(D:Addr):Prop where
 e:PySem.W.nsIn K mainGlobals d=some (some (.ref D))
 xc:DX K D
 vt:PySem.W.kitOne K (.ref D) (.type "ValueError")=some true
 ex:PySem.W.excIn K D wW "ValueError.__new__"=true
theorem Kl{K:PySem.W.Frag}{d:Str}{D:Addr}(e:PySem.W.nsIn K mainGlobals d=some (some (.ref D)):=by kernel_rfl)(i:PySem.W.isClsIn K D=true:=by kernel_rfl)(v:PySem.W.subIn K (.ref D) (.type "ValueError")=some true:=by kernel_rfl)(ga:PySem.W.findIn K (.ref D) "__getattribute__"=some (some (.builtin "BaseException.__getattribute__")):=by kernel_rfl)(hk:PySem.W.findIn K (.ref D) "__getattr__"=some none:=by kernel_rfl)
 (cl:PySem.W.findIn K (.ref D) "__class__"=some (some (.builtin "object.__class__")):=by kernel_rfl) (mo:PySem.W.mroIn K D (.type "object")=some true:=by kernel_rfl) (mb:PySem.W.mroIn K D (.type "BaseException")=some true:=by kernel_rfl) (ex:PySem.W.excIn K D wW "ValueError.__new__"=true:=by kernel_rfl):H8 K d D:=
 ⟨e,⟨ga,hk,cl,mo,mb,i⟩,w5 (by decide+kernel) v,ex⟩
theorem modK(P:Params){mg:Str→Option Value}{h:Heap}(X:(K P).In h)(G:h.Ns mainGlobals mg):r8 (K P) mg Γ ⟨K P,mg,["NoSpot"],ts⟩:=by
 have Gr:∀{x:Str} {u:Value},PySem.W.nsIn (K P) mainGlobals x=some (some u)→mg x=some u:=fun a=>PySem.W.mg_of X G a
 have sI:∀{x:Str},PySem.W.nsIn (K P) mainGlobals x=some none→mg x=none:=fun a=>PySem.W.mg_none_of X G a
 have fH:H8 (K P) "NoSpot" 37:=Kl
 refine⟨rfl,rfl,fun q hq=>?_,fun g hg=>?_,by decide+kernel,fun c hc=>?_,fun d hd D hD=>?_,fun c hc=>?_,fun c hc=>?_,fun z=>absurd z (by decide+kernel),fun _=>⟨4,⟨.type "module",some builtinsNs,.plain,#[]⟩,Gr (by kernel_rfl),by decide,by decide,by kernel_rfl,rfl,rfl,rfl⟩⟩
 ·simp only [Γ,List.mem_cons,List.not_mem_nil,or_false] at hq;rcases hq with rfl|rfl|rfl
  ·exact⟨.str "#" 225,.str "#",Gr (by kernel_rfl),⟨_,rfl⟩,fun G=>.s⟩
  ·exact⟨.int 2 227,.int 2,Gr (by kernel_rfl),⟨_,rfl⟩,fun G=>.i⟩
  ·exact⟨.int 3 229,.int 3,Gr (by kernel_rfl),⟨_,rfl⟩,fun G=>.i⟩
 ·simp only [Γ,List.mem_cons,List.not_mem_nil,or_false] at hg;rcases hg with rfl|rfl|rfl|rfl|rfl|rfl|rfl|rfl|rfl|rfl|rfl|rfl|rfl|rfl
  ·exact sI (by kernel_rfl)
  ·exact sI (by kernel_rfl)
  ·exact sI (by kernel_rfl)
  ·exact sI (by kernel_rfl)
  ·exact sI (by kernel_rfl)
  ·exact sI (by kernel_rfl)
  ·exact sI (by kernel_rfl)
  ·exact sI (by kernel_rfl)
  ·exact sI (by kernel_rfl)
  ·exact sI (by kernel_rfl)
  ·exact sI (by kernel_rfl)
  ·exact sI (by kernel_rfl)
  ·exact sI (by kernel_rfl)
  ·exact sI (by kernel_rfl)
 ·simp only [Γ,List.mem_cons,List.not_mem_nil,or_false] at hc
 ·simp only [List.mem_cons,List.not_mem_nil,or_false] at hd;rcases hd with rfl
  ·cases(Gr fH.e).symm.trans hD;refine⟨fH.xc,fun c hc C hC=>?_,fH.vt⟩
   simp only [Γ,List.mem_cons,List.not_mem_nil,or_false] at hc
 ·simp only [Γ,List.contains_iff_mem,List.mem_cons,List.not_mem_nil,or_false] at hc⊢;exact hc
 ·simp only [Γ,List.contains_iff_mem,List.mem_cons,List.not_mem_nil,or_false] at hc;rcases hc with rfl
  ·exact⟨_,Gr fH.e,fH.ex⟩
theorem hY{P:Params}{h:Heap}(X:(K2 P).In h):(K P).In h∧∀p∈ts.map (·.1),h.get? p=some (PySem.W.tabObj #[]):=⟨fun b o e=>X b o (Hd.look_app e),fun p hp=>by
 simp only [ts,List.map_cons,List.map_nil,List.mem_cons,List.not_mem_nil,or_false] at hp;rcases hp with rfl|rfl|rfl
 ·exact X _ _ (by kernel_rfl)
 ·exact X _ _ (by kernel_rfl)
 ·exact X _ _ (by kernel_rfl)
⟩
theorem hC(P:Params):∀p∈ts.map (·.1),(∃c,CodeK (K P) c p)∧(K P).lookup p=none:=fun p hp=>by
 simp only [ts,List.map_cons,List.map_nil,List.mem_cons,List.not_mem_nil,or_false] at hp;rcases hp with rfl|rfl|rfl
 ·exact⟨⟨_,iK P⟩,by kernel_rfl⟩
 ·exact⟨⟨_,g8 P⟩,by kernel_rfl⟩
 ·exact⟨⟨_,fu P⟩,by kernel_rfl⟩
def keep:List Nat:=[1,2,4,5,6,7,8,9,10,11,12,13,14,15,16,17,18,20,21,22,23,24,25,26,28,29,30,31,32,33,34,35,36,37,38,39]
theorem ka:∀P,as=(K2 P).map (·.1):=fun _=>by kernel_rfl
theorem left:PySem.W.LeftO lw.row.prog (PySem.W.view lw.row.prog keep) [] (fun s=>PySem.W.xlAt (PySem.W.view lw.row.prog keep) [] s&&PySem.W.recOk lw.row.toRowW.records s) (PySem.W.kHook K2 as ka).obs (PySem.W.kHook K2 as ka).val 2960:=by
 refine Hd.left_of (T₀:=fun P=>Hd.treeOf (PySem.W.boot_heap P).objs.toList) (m₀:=11) (life:={}) (ann:=some (.ref 6)) (M:=2910) (by kernel_rfl) (by kernel_rfl) (fun s=>by kernel_rfl) Hd.boot0 Hd.boot1 (by kernel_rfl) fun w os=>?_
 rw [PySem.W.Fast.te10156331382660048174,PySem.W.Fast.te11892475500146522536,PySem.W.Fast.te14364793385576792824,PySem.W.Fast.te6613529449190102663,PySem.W.Fast.te4187177175401517315,PySem.W.Fast.te5923862056798008813]
 kernel_rfl
end K12
open PySem PySem.W PyProof.Rows
set_option maxRecDepth 100000 in
set_option maxHeartbeats 0 in
theorem PySem.Challenge.cw_cellways_k12_whole_alike_holds : PySem.Challenge.rw_cellways_k12_whole_alike.Holds := by
 refine Hd.holds (d:=⟨"law",L2.defArgs (K12.top 39),L2.defBody (K12.top 39),L2.defScope (K12.top 39),Hd.dpos (K12.top 39)⟩) (by kernel_rfl) K12.ka K12.left (by kernel_rfl) (by kernel_rfl) (by kernel_rfl) (by kernel_rfl) ⟨rfl,rfl,rfl,rfl,rfl,by decide+kernel⟩ ?hw ?hc
 case hw=>w_witness2
 case hc=>exact Ci.walk (l:=PySem.Challenge.rw_cellways_k12_whole_alike) K12.R31 K12.Γ "_law_script" K12.d_law ["NoSpot"] K12.ts (K12.top 39) rfl rfl rfl rfl rfl ⟨rfl,by decide,by decide⟩ (fun w h Y=>K12.hY (PySem.W.kIn_of Y)) (fun w=>K12.hC w.params) (fun w mg h KX G=>K12.modK _ KX G) (fun w=>Hd.ent 242 241 (.str "law_cellways_k12_whole_alike" 411)) K12.st_law (fun w=>K12.allK _) K12.hlawT
#print axioms PySem.Challenge.cw_cellways_k12_whole_alike_holds
